
import PyProof.Rows.All
import Wide.All
import OpenK.AllK
import Wide.FinOn
import Lean
import PyProof.EqAt
import PyProof.EqKinds
import PyProof.TupleCall
import PyProof.NeKinds
import PyProof.RaisesMany
import PyProof.RulesAs
import PyProof.NsDelKeeps
import PyProof.InstStoreFacts
import PyProof.ExcClass3
import PyProof.ExcInit
import KE.KTryMore
import PyProof.AutoSeq1
import PyProof.WalkInts
import PySem.Challenge.RW_mumtrial_k87_read_back
noncomputable section
open PySem renaming Program->bj,wpAny_bind->am,wpAny_specialOf->Ac,wpAny_call_entry->wW,wpAny_pure->aW,wpAny_rule->l7,Builtin->cD,wpAny_holding->ji,wpAny_truthy_bool->ni,wpAny_seqItems->jh,sizeLine->aj,sysModules->gA,mainGlobals->bh,bootBuiltins->fS,starEach->aG,wpAny_mono->d4,compareOp->da,behindInMarks->hW,standAt->sJ,holding->lY,wpAny_execs_nil->pr,swapsWith->mW,assignEach->lW,wpAny_standAt->vN,wpAny_passesOwn->mV,letOwnedTupleGo->vM,wpAny_pyIter_list->vL,wpAny_pyIter_tuple->vK,foldedSetIterable->sI,binaryOp->lV,getAttr->sG,getMethod->sE,codeAny->zzl76,attributeBase->pq,FuncData->hV,BindsTo->mU,codeAny_mono->vF,wpAny_Call_Name_kw->vE,backToKw->sB,keywordEach->sA,NameKind->gu,mem_of_lookup->nE,getItem->jw,subscripted->qF,sliceBounds->jt,call_meets->kU,valueAt->js,callerA->ip,noteFrame->kS,wpAny_newObj_type->qx,ZipApart->kR,wpAny_pyIter_zip->qw,wpAny_callSpecial?_slot->qv,wpAny_field->cr,wpAny_setField->kQ,wpAny_setField_rec->kP,wpAny_onRaise->qp,excClassObj->ng,setFlight->nc,ExceptHandler->qh
open PySem.Builtin.Tuple renaming tupleHashOf->ug
open PySem.Value renaming builtin->uf
open Bool renaming false_ne_true->gw,not_true->vP,false_eq_true->sK,eq_iff_iff->lU,and_eq_true->gQ,and_false->qm,true_and->m9
open Nat renaming add_assoc->Ab,le_refl->aD,lt_of_lt_of_le->d5,lt_irrefl->lZ,ne_of_lt->bP,le_trans->bF,le_of_lt->fR,ne_of_gt->dZ,zero_le->cy,lt_of_le_of_lt->qz,sub_zero->qi,not_le_of_lt->gf,mod_lt->m_
open List renaming append_nil->i9,range->j1,filterMap_cons->pA,mem_cons_self->bY,mem_cons_of_mem->cg,mem_cons->bg,mem_append->bO,mem_append_left->fx,getElem?_eq_some_iff->db,getElem?_set_ne->vO,mem_append_right->fb,length_cons->c6,lookup->ii,map_cons->aS,length_map->ap,nodup_cons->lS,of_mem_zip->sy,replicate->pk,length_take->bf,getElem?_append_right->jy,getElem?_append_left->nD,getElem?_map->cA,mem_of_getElem?->bU,length_append->bd,length_replicate->qG,length_drop->eU,size_toArray->bD,length_set->qE,find?_cons->kT,any_cons->qD,nodup_nil->ir,lookup_cons->eT,forIn_cons->nq,mem_map->aU,not_mem_nil->gj,any_toArray->qk,drop_zero->kO,take_length->c9,getElem?_eq_getElem->qj,all_cons->nh,all_map->kN,map_append->aM,nodup_append->ef,drop_of_length_le->kM,foldl_cons->kJ,take_of_length_le->qe,mem_of_mem_take->eS,append_assoc->ij,map_map->cR,foldl_append->m8,length_filter_le->m7,filter_append->qd,getD_eq_getElem?_getD->m5
open Option.some renaming inj->c7
open PySem.W renaming instObj->l5,lookIn->vI,plainGet->sH,hasDictIn->vH,findIn->bx,isFn->sF,makesIn->sD,emptyDict->jY,keepIn->e_,specialIn->vG,kitOne->sC,kia_one->gv,fnOf->fy,codeIn->jx,nsIn->bC,mg_of->dq,mg_none_of->eQ
open PySem.Heap renaming lt_size->aE,SameBut->gy,get?_push_of_some->aQ,get?_push_size->cz,size_push->lT,get?_update_self->jv,get?_update_other->ju
open PyProof.Rows renaming AllBare->jZ,callWith_type1->vJ,IntsAre->nr
open Ne renaming symm->cO
open Array renaming length_toList->lX,getElem?_eq_some_iff->gP
open False renaming elim->fu
open True renaming intro->dY
open Option renaming isSome_iff_exists->vD,map_some->nB,map_eq_some_iff->qA
open Int renaming toNat_natCast->kW,emod_nonneg->kL,emod_lt_of_pos->kK,eq_ofNat_of_zero_le->jq
open PySem.Obj renaming mapSeq->nC,isFreed_of_fields->nk,data_mapFields->ik,mapFields->gh
open PySem.Paired renaming snoc->qC
open ForInStep renaming yield->qy
open PySem.NameKind renaming free->io
open PySem.Builtin.SmallTypes renaming nextOf->il,ownedTupleIsFree->qq
open PySem.Str renaming ofString->qt
open PySem.F renaming slot_tuple_iterator_next->qr,slot_zip_next->qo,plainAttrs_str->kI,slot_str_join->qb,type_str_join->qa,plainAttrs_list->kH,slot_list_append->mZ,type_list_append->mY
open PySem.Heap.SameBut renaming update->nn
open PySem.SeqAt renaming EqAt->ba
open PySem.Builtin.Str renaming strSliceIndices->nj,strKind->qg
open PySem.Txt renaming join->jr,split->ee
open PySem.PassesOwn renaming never->cc
theorem Q0:0<=PySem.sizeLine:=by decide
theorem Q1:1<=PySem.sizeLine:=by decide
theorem Q2:2<=PySem.sizeLine:=by decide
theorem Q3:3<=PySem.sizeLine:=by decide
theorem Q4:4<=PySem.sizeLine:=by decide
theorem Q6:6<=PySem.sizeLine:=by decide
theorem zzr0{p:Prop}[Decidable p](h:¬p):decide p=false:=decide_eq_false h
theorem zzr1{p:Prop}[Decidable p](h:p):decide p=true:=decide_eq_true h
abbrev Za:=PySem.W.Frag
abbrev Zb:=List PySem.Str
abbrev Zc:=PySem.Value->PySem.Shared->Prop
abbrev Zd:=List (PySem.Addr×PySem.Obj)
abbrev Ze:=List PySem.Addr
abbrev Zf:=List PySem.Value
section
set_option Elab.async false
set_option linter.all false
set_option maxRecDepth 100000
set_option maxHeartbeats 4000000
namespace L2
open PySem PySem.Spec PyProof.Rows
open Sem (wp)
abbrev cG:=Sum Int Str
def bL:cG->Value->Bool
 |.inl k,v=>Value.isInt k v
 |.inr x,v=>Value.isStrOf x v
def Dg(w:World):cG->Int
 |.inl k=>hashInt k
 |.inr x=>hashStr w x
theorem ao:∀{k:cG}{v:Value},bL k v=true->(∃i t,k=Sum.inl i/\v=Value.int i t)∨(∃x t,k=Sum.inr x/\v=Value.str x t)
 |.inl i,v,h=>by
  obtain⟨t,e⟩:=Value.isInt_shape (k:=i) (v:=v) h;exact .inl ⟨i,t,rfl,e⟩
 |.inr x,v,h=>by
  obtain⟨t,e⟩:=Value.isStrOf_shape (x:=x) (v:=v) h;exact .inr ⟨x,t,rfl,e⟩
theorem xL(i:Int)(t:Tok):bL (.inl i) (.int i t)=true:=by simp[bL,Value.isInt]
theorem xK(x:Str)(t:Tok):bL (.inr x) (.str x t)=true:=by simp[bL,Value.isStrOf]
theorem rF(a b:Int):decide ((Sum.inl a:cG)=Sum.inl b)=(a==b):=by
 by_cases e:a=b
 ·subst e;simp
 ·have h:¬(Sum.inl a:cG)=Sum.inl b:=fun q=>e (Sum.inl.inj q);rw[zzr0 h];exact(beq_eq_false_iff_ne.mpr e).symm
theorem rC(a b:Str):decide ((Sum.inr a:cG)=Sum.inr b)=decide (a=b):=by
 by_cases e:a=b
 ·subst e;simp
 ·have h:¬(Sum.inr a:cG)=Sum.inr b:=fun q=>e (Sum.inr.inj q);rw[zzr0 h,zzr0 e]
theorem rE(a:Int)(b:Str):decide ((Sum.inl a:cG)=Sum.inr b)=false:=zzr0 (fun q=>nomatch q)
theorem rD(a:Str)(b:Int):decide ((Sum.inr a:cG)=Sum.inl b)=false:=zzr0 (fun q=>nomatch q)
def bo(prog:bj)(w:World):PySem.KeyKind prog w cG where
 is:=bL
 hash:=Dg w
 inj:=fun v a b ha hb=>by
  rcases ao ha with⟨i,t,rfl,rfl⟩|⟨x,t,rfl,rfl⟩
  ·rcases ao hb with⟨j,u,rfl,e⟩|⟨y,u,rfl,e⟩
   ·injection e with e1 _;rw[e1]
   ·exact nomatch e
  ·rcases ao hb with⟨j,u,rfl,e⟩|⟨y,u,rfl,e⟩
   ·exact nomatch e
   ·injection e with e1 _;rw[e1]
 byValue:=fun k v h=>by
  rcases ao h with⟨i,t,rfl,rfl⟩|⟨x,t,rfl,rfl⟩<;>rfl
 pyHash:=fun hv h=>by
  rcases ao hv with⟨i,t,rfl,rfl⟩|⟨x,t,rfl,rfl⟩
  ·exact wpAny_pyHash_int h
  ·exact wpAny_pyHash_str h
 eqBool:=fun hu hv h=>by
  rcases ao hu with⟨i,t,rfl,rfl⟩|⟨x,t,rfl,rfl⟩
  ·rcases ao hv with⟨j,u,rfl,rfl⟩|⟨y,u,rfl,rfl⟩
   ·rw[rF]at h;exact wpAny_eqBool_int h
   ·rw[rE]at h;exact ba.int_str i t y u _ _ _ _ h
  ·rcases ao hv with⟨j,u,rfl,rfl⟩|⟨y,u,rfl,rfl⟩
   ·rw[rD]at h;exact ba.str_int x t j u _ _ _ _ h
   ·rw[rC]at h;exact wpAny_eqBool_str h
 «strs»:=fun k x t v h=>by
  rcases ao h with⟨i,u,rfl,e⟩|⟨y,u,rfl,e⟩
  ·exact nomatch e
  ·injection e with e1 _;subst e1;cases v<;>rfl
theorem tH(prog:bj)(w:World)(i:Int)(t:Tok):(bo prog w).is (.inl i) (.int i t)=true:=xL i t
theorem tG(prog:bj)(w:World)(x:Str)(t:Tok):(bo prog w).is (.inr x) (.str x t)=true:=xK x t
end L2
namespace L2
open PySem PySem.Spec PyProof.Rows
open Sem (wp)
inductive TK where
 |k (a:cG)
 |t (l:List TK)
mutual
def BD:(x y:TK)->Decidable (x=y)
 |.k a,.k b=>if h:a=b then Decidable.isTrue (by rw[h])else Decidable.isFalse fun e=>h (by injection e)
 |.t l,.t m=>match decTKs l m with
  |Decidable.isTrue h=>Decidable.isTrue (by rw[h])
  |Decidable.isFalse h=>Decidable.isFalse fun e=>h (by injection e)
 |.k _,.t _=>Decidable.isFalse nofun
 |.t _,.k _=>Decidable.isFalse nofun
def decTKs:(x y:List TK)->Decidable (x=y)
 |[],[]=>Decidable.isTrue rfl
 |[],_::_=>Decidable.isFalse nofun
 |_::_,[]=>Decidable.isFalse nofun
 |a::l,b::m=>match BD a b with
  |Decidable.isTrue h=>match decTKs l m with
   |Decidable.isTrue h'=>Decidable.isTrue (by rw[h,h'])
   |Decidable.isFalse h'=>Decidable.isFalse fun e=>h' (by injection e)
  |Decidable.isFalse h=>Decidable.isFalse fun e=>h (by injection e)
end
instance:DecidableEq TK:=BD
mutual
def TK.depth:TK->Nat
 |.k _=>0
 |.t l=>TK.depths l+1
def TK.depths:List TK->Nat
 |[]=>0
 |a::r=>max (TK.depth a) (TK.depths r)
end
mutual
def TK.hash(w:World):TK->Int
 |.k a=>Dg w a
 |.t l=>reduceHash (ug (TK.hashs w l))
def TK.hashs(w:World):List TK->List Int
 |[]=>[]
 |a::r=>TK.hash w a::TK.hashs w r
end
mutual
def TK.draws:TK->Nat
 |.k _=>1
 |.t l=>TK.drawss l+1
def TK.drawss:List TK->Nat
 |[]=>0
 |a::r=>TK.draws a+TK.drawss r
end
mutual
def jf(h:Heap):TK->Value->Prop
 |.k a,v=>bL a v=true
 |.t l,v=>∃a o items n,v=.ref a/\h.get? a=some o/\o.cls=.type "tuple"/\o.data=.seq items n/\TAts h l items.toList
def TAts(h:Heap):List TK->List Value->Prop
 |[],vs=>vs=[]
 |k::r,vs=>∃v us,vs=v::us/\jf h k v/\TAts h r us
end
theorem jf.inj{h:Heap}:∀(d:Nat) {x y:TK}{v:Value},x.depth<=d->jf h x v->jf h y v->x=y:=by
 have key:∀(d:Nat) (ih:∀{x y:TK}{v:Value},x.depth<=d->jf h x v->jf h y v->x=y) (xs ys:List TK) (vs:Zf),TK.depths xs<=d->TAts h xs vs->TAts h ys vs->xs=ys:=by
  intro d ih xs
  induction xs with
  |nil =>
   intro ys vs _ hx hy;have hx':vs=[]:=hx;subst hx';cases ys with
   |nil=>rfl
   |cons y ys=>obtain⟨_,_,e,_⟩:=hy;cases e
  |cons x xs ihl =>
   intro ys vs hd hx hy;obtain⟨v,us,rfl,hx1,hx2⟩:=hx;cases ys with
   |nil=>have hy':v::us=[]:=hy;cases hy'
   |cons y ys =>
    obtain⟨v',us',e,hy1,hy2⟩:=hy;cases e;have hd':max x.depth (TK.depths xs)<=d:=hd;rw[ih (by omega) hx1 hy1,ihl ys us (by omega) hx2 hy2]
 have leaf:∀(a:cG) (l:List TK) (v:Value),jf h (.k a) v->jf h (.t l) v->False:=by
  intro a l v h1 h2;obtain⟨b,o,items,n,rfl,_⟩:=h2;rcases ao (show bL a (.ref b)=true from h1)with⟨_,_,_,e⟩|⟨_,_,_,e⟩<;>cases e
 have kk:∀(a b:cG) (v:Value),bL a v=true->bL b v=true->a=b:=by
  intro a b v h1 h2;rcases ao h1 with⟨i,t,rfl,rfl⟩|⟨i,t,rfl,rfl⟩
  ·rcases ao h2 with⟨j,u,rfl,e⟩|⟨j,u,rfl,e⟩
   ·cases e;rfl
   ·cases e
  ·rcases ao h2 with⟨j,u,rfl,e⟩|⟨j,u,rfl,e⟩
   ·cases e
   ·cases e;rfl
 intro d
 induction d with
 |zero =>
  intro x y v hd hx hy;cases x with
  |t l=>exact absurd hd (by show ¬(TK.depths l+1<=0);omega)
  |k a =>
   cases y with
   |k b=>rw[kk a b v hx hy]
   |t l=>exact(leaf a l v hx hy).elim
 |succ d ih =>
  intro x y v hd hx hy;cases x with
  |k a =>
   cases y with
   |k b=>rw[kk a b v hx hy]
   |t l=>exact(leaf a l v hx hy).elim
  |t l =>
   cases y with
   |k b=>exact(leaf b l v hy hx).elim
   |t l' =>
    obtain⟨a,o,items,n,rfl,ho,hc,hdt,hi⟩:=hx;obtain⟨a',o',items',n',e,ho',hc',hdt',hi'⟩:=hy;cases e;rw[ho]at ho';cases ho';rw[hdt]at hdt';injection hdt' with e1 _;subst e1;rw[key d (fun h1=>ih h1) l l' items.toList (by have:TK.depths l+1<=d+1:=hd;omega) hi hi']
theorem jf.mono{h h':Heap}(k:∀a o items n,h.get? a=some o->o.cls=.type "tuple"->o.data=.seq items n->h'.get? a=some o):∀(d:Nat) {x:TK}{v:Value},x.depth<=d->jf h x v->jf h' x v:=by
 have key:∀(d:Nat) (ih:∀{x:TK}{v:Value},x.depth<=d->jf h x v->jf h' x v) (xs:List TK) (vs:Zf),TK.depths xs<=d->TAts h xs vs->TAts h' xs vs:=by
  intro d ih xs
  induction xs with
  |nil=>intro vs _ hx;exact hx
  |cons x xs ihl =>
   intro vs hd hx;obtain⟨v,us,rfl,hx1,hx2⟩:=hx;have hd':max x.depth (TK.depths xs)<=d:=hd;exact⟨v,us,rfl,ih (by omega) hx1,ihl us (by omega) hx2⟩
 intro d
 induction d with
 |zero =>
  intro x v hd hx;cases x with
  |t l=>exact absurd hd (by show ¬(TK.depths l+1<=0);omega)
  |k a=>exact hx
 |succ d ih =>
  intro x v hd hx;cases x with
  |k a=>exact hx
  |t l =>
   obtain⟨a,o,items,n,rfl,ho,hc,hdt,hi⟩:=hx;exact⟨a,o,items,n,rfl,k a o items n ho hc hdt,hc,hdt,key d (fun h1=>ih h1) l _ (by have:TK.depths l+1<=d+1:=hd;omega) hi⟩
section
variable{prog:bj}{w:World}
theorem Ai:∀(d:Nat) {A:Around}{E:Zc}{s:Shared}{k:TK}{v:Value}{Q:Int->Shared->Prop},k.depth<=d->A.units+d<cLine->jf s.heap k v->Q (k.hash w) { s with toks:=s.toks+k.draws } ->
  wpAny (model prog w) A (pyHash v) Q E s:=by
 intro d
 induction d with
 |zero =>
  intro A E s k v Q hd hu hk h;cases k with
  |t l=>exact absurd hd (by show ¬(TK.depths l+1<=0);omega)
  |k a=>exact(bo prog w).pyHash (k:=a) hk h
 |succ d ih =>
  intro A E s k v Q hd hu hk h;cases k with
  |k a=>exact(bo prog w).pyHash (k:=a) hk h
  |t l =>
   obtain⟨a,o,items,n,rfl,ho,hc,hdt,hi⟩:=hk;have hT:s.TypeIs (.ref a) "tuple":=⟨o,ho,hc⟩;have hdl:TK.depths l<=d:=by have:TK.depths l+1<=d+1:=hd;omega
   unfold pyHash
   first|unfold pyHashByItsType|skip
   first|refine am (wpAny_cRoomFor_or (.inr (by omega)) ?_)|skip
   refine am (Ac hT F.slot_tuple_hash.lookup ?_);show wpAny _ _ (if(some (uf "tuple.__hash__")==some Value.none)=true then _ else _) Q E s
   rw[if_neg (by rw[beq_builtin_none];exact gw)];refine am (Ac hT F.slot_tuple_hash.lookup ?_);show wpAny _ _ (callSpecialIfBoundUnlessNone? (.ref a) "__hash__" _ >>= _) Q E s;refine am (wpAny_callSpecialIfBoundUnlessNone?_slot hT F.slot_tuple_hash (wW F.slot_tuple_hash hT F.entry_tuple_hash ?_ (F.args_tuple_hash_1 _)));show wpAny _ _ (cD.Tuple.tupleItemsOf (.ref a) >>= _) _ _ s;refine am (wpAny_tupleItemsOf ho hdt ?_);refine am ?_;rw[<-Array.forIn_toList];refine wpAny_forIn_list _
    (fun rest (b:Array Int) s'=>∃done left,l=done++left/\TAts s.heap left rest/\b.toList=TK.hashs w done/\s'={ s with toks:=s.toks+TK.drawss done })
    _ ?_ ?_ _ _ ⟨[],l,rfl,hi,rfl,rfl⟩
   ·rintro x rest b s' ⟨done,left,e,hl,hb,rfl⟩;cases left with
    |nil=>have hl':x::rest=[]:=hl;cases hl'
    |cons k' left =>
     obtain⟨x',rest',e',h1,h2⟩:=hl;cases e';have hdk:k'.depth<=d:=by
      have gen:∀(p:List TK),TK.depths (p++k'::left)<=d->k'.depth<=d:=by
       intro p
       induction p with
       |nil=>intro hp;have hp':max k'.depth (TK.depths left)<=d:=hp;omega
       |cons q p ihp=>intro hp;have hp':max q.depth (TK.depths (p++k'::left))<=d:=hp;exact ihp (by omega)
      exact gen done (by rw[<-e];exact hdl)
     have hs:TK.hashs w (done++[k'])=TK.hashs w done++[k'.hash w]:=by
      clear e hb
      induction done with
      |nil=>rfl
      |cons q p ihp=>show _::TK.hashs w (p++[k'])=_;rw[ihp];rfl
     have hdr:TK.drawss (done++[k'])=TK.drawss done+k'.draws:=by
      clear e hb hs
      induction done with
      |nil=>show k'.draws+0=0+k'.draws;omega
      |cons q p ihp=>show q.draws+TK.drawss (p++[k'])=q.draws+TK.drawss p+k'.draws;rw[ihp];omega
     refine am (ih (k:=k') hdk (by show A.units+1+d<cLine;omega) h1 ?_)
     first
      |exact aW ⟨done++[k'],left,by rw[e];simp,h2,by rw[hs];simp[hb],by rw[hdr];simp[Ab]⟩
      |exact am (aW (aW ⟨done++[k'],left,by rw[e];simp,h2,by rw[hs];simp[hb],by rw[hdr];simp[Ab]⟩))
   ·rintro b s' ⟨done,left,e,hl,hb,rfl⟩;cases left with
    |cons k' left=>obtain⟨_,_,e',_⟩:=hl;cases e'
    |nil =>
     rw[i9]at e;subst e;show wpAny _ _ (retInt (ug b.toList)) _ _ _;rw[hb];refine wpAny_ret_mkInt ?_;have h':Q (reduceHash (ug (TK.hashs w l))) { s with toks:=s.toks+(TK.drawss l+1) }:=h;show wpAny _ _ (if(decide (-(2:Int) ^ 63<=ug (TK.hashs w l)) && decide (ug (TK.hashs w l)<2 ^ 63))=true then _ else _) Q E _
     unfold reduceHash at h';by_cases hr:(decide (-(2:Int) ^ 63<=ug (TK.hashs w l)) && decide (ug (TK.hashs w l)<2 ^ 63))=true
     ·rw[if_pos hr];rw[if_pos hr]at h';exact aW (by simpa[Ab]using h')
     ·rw[if_neg hr];rw[if_neg hr]at h';exact am (l7 (aW (by simpa[Ab]using h')))
theorem w_(d:Nat)(ih:∀{A:Around}{E:Zc}{s:Shared}{x y:TK}{u v:Value}{Q:Bool->Shared->Prop},x.depth<=d->y.depth<=d->A.units+d<cLine->jf s.heap x u->jf s.heap y v->Q (decide (x=y)) s->wpAny (model prog w) A (eqBool u v) Q E s)
  {A:Around}{E:Zc}{s:Shared}{x y:List TK}{a b:Addr}{P:Fin->Shared->Prop}{oa ob:Obj}{xs ys:Array Value}{na nb:Nat}(hx:TK.depths x<=d) (hy:TK.depths y<=d) (hu:A.units+d<cLine)
  (hoa:s.heap.get? a=some oa) (hda:oa.data=.seq xs na) (hia:TAts s.heap x xs.toList) (hob:s.heap.get? b=some ob) (hcb:ob.cls=.type "tuple") (hdb:ob.data=.seq ys nb) (hib:TAts s.heap y ys.toList)
  (h:P (.done (.ret (.bool (decide (x=y))))) s):wpAny (model prog w) A (cD.«tuple.__eq__» ⟨[.ref a,.ref b],[]⟩) P E s:=by
 have hTb:s.TypeIs (.ref b) "tuple":=⟨ob,hob,hcb⟩;show wpAny _ _ (isInstance (.ref b) (.type "tuple") >>= _) _ _ s;refine am (wpAny_isInstance hTb isSubtype_tuple_tuple ?_);simp only[vP,sK,if_false];refine am (wpAny_tupleItemsOf hoa hda ?_);refine am (wpAny_tupleItemsOf hob hdb ?_);refine am ?_;refine wpAny_forIn_list _
  (fun rest r s'=>r.1=none/\s'=s/\∃x' y' xs' ys',rest=List.zip xs' ys'/\TAts s.heap x' xs'/\TAts s.heap y' ys'/\TK.depths x'<=d/\TK.depths y'<=d/\decide (x'=y')=decide (x=y)/\(xs'.length==ys'.length)=(xs.size==ys.size))
  _ ?_ ?_ _ _ ⟨rfl,rfl,x,y,xs.toList,ys.toList,rfl,hia,hib,hx,hy,rfl,by simp⟩
 ·rintro⟨u,v⟩ rest r s' ⟨hr,rfl,x',y',xs',ys',hz,hx',hy',dx,dy,hdec,hlen⟩;cases x' with
  |nil =>
   have e:xs'=[]:=hx';subst e;simp at hz
  |cons k1 x'' =>
   obtain⟨u',xs'',rfl,h1,hx''⟩:=hx';cases y' with
   |nil =>
    have e:ys'=[]:=hy';subst e;simp at hz
   |cons k2 y'' =>
    obtain⟨v',ys'',rfl,h2,hy''⟩:=hy';simp only[List.zip_cons_cons,List.cons.injEq,Prod.mk.injEq]at hz;obtain⟨⟨rfl,rfl⟩,rfl⟩:=hz;have dx':max k1.depth (TK.depths x'')<=d:=dx;have dy':max k2.depth (TK.depths y'')<=d:=dy;refine am (ih (x:=k1) (y:=k2) (by omega) (by omega) hu h1 h2 ?_);by_cases hk:k1=k2
    ·subst hk;rw[zzr1 rfl];simp only[vP,sK,if_false];refine aW ⟨rfl,rfl,x'',y'',xs'',ys'',rfl,hx'',hy'',by omega,by omega,?_,by simpa using hlen⟩;rw[<-hdec];by_cases hxy:x''=y''
     ·simp[hxy]
     ·simp[hxy]
    ·rw[zzr0 hk];simp only[Bool.not_false,if_true];have hf:decide (x=y)=false:=by rw[<-hdec];simp[hk]
     rw[hf]at h;exact am (aW (aW (aW h)))
 ·rintro⟨r1,r2⟩ s' ⟨hr,rfl,x',y',xs',ys',hz,hx',hy',dx,dy,hdec,hlen⟩;simp only at hr;subst hr;refine aW ?_;have hfin:(xs.size==ys.size)=decide (x=y):=by
   rw[<-hdec,<-hlen];cases x' with
   |nil =>
    have e:xs'=[]:=hx';subst e;cases y' with
    |nil=>have e:ys'=[]:=hy';subst e;simp
    |cons _ _=>obtain⟨_,_,rfl,_⟩:=hy';simp
   |cons _ _ =>
    obtain⟨_,_,rfl,_⟩:=hx';cases y' with
    |nil=>have e:ys'=[]:=hy';subst e;simp
    |cons _ _=>obtain⟨_,_,rfl,_⟩:=hy';simp at hz
  show P (.done (.ret (.bool (xs.size==ys.size)))) s';rw[hfin];exact h
theorem CT:∀(d:Nat) {A:Around}{E:Zc}{s:Shared}{x y:TK}{u v:Value}{Q:Bool->Shared->Prop},x.depth<=d->y.depth<=d->A.units+d<cLine->jf s.heap x u->jf s.heap y v->Q (decide (x=y)) s ->
  wpAny (model prog w) A (eqBool u v) Q E s:=by
 have mixed1:∀{A:Around}{E:Zc}{s:Shared}{a:cG}{l:List TK}{u v:Value}{Q:Bool->Shared->Prop},A.units<cLine->jf s.heap (.k a) u->jf s.heap (.t l) v->Q false s->wpAny (model prog w) A (eqBool u v) Q E s:=by
  intro A E s a l u v Q hu hx hy h;obtain⟨b,o,items,n,rfl,ho,hc,hdt,hi⟩:=hy;have ht:s.heap.IsTuple b items:=⟨o,ho,hc,n,hdt⟩;rcases ao (show bL a u=true from hx)with⟨i,t,rfl,rfl⟩|⟨i,t,rfl,rfl⟩
  ·exact ba.int_tuple i t ht hu prog w E Q h
  ·exact ba.str_tuple i t ht hu prog w E Q h
 have mixed2:∀{A:Around}{E:Zc}{s:Shared}{a:cG}{l:List TK}{u v:Value}{Q:Bool->Shared->Prop},A.units<cLine->jf s.heap (.t l) u->jf s.heap (.k a) v->Q false s->wpAny (model prog w) A (eqBool u v) Q E s:=by
  intro A E s a l u v Q hu hx hy h;obtain⟨b,o,items,n,rfl,ho,hc,hdt,hi⟩:=hx;have ht:s.heap.IsTuple b items:=⟨o,ho,hc,n,hdt⟩;rcases ao (show bL a v=true from hy)with⟨i,t,rfl,rfl⟩|⟨i,t,rfl,rfl⟩
  ·exact ba.tuple_int i t ht hu prog w E Q h
  ·exact ba.tuple_str i t ht hu prog w E Q h
 have leaves:∀{A:Around}{E:Zc}{s:Shared}{a b:cG}{u v:Value}{Q:Bool->Shared->Prop},jf s.heap (.k a) u->jf s.heap (.k b) v->Q (decide (TK.k a=TK.k b)) s->wpAny (model prog w) A (eqBool u v) Q E s:=by
  intro A E s a b u v Q hx hy h;refine(bo prog w).eqBool (a:=a) (b:=b) hx hy ?_;by_cases e:a=b
  ·subst e;simpa using h
  ·have:¬(TK.k a=TK.k b):=fun z=>e (by injection z);rw[zzr0 this]at h;rw[zzr0 e];exact h
 intro d
 induction d with
 |zero =>
  intro A E s x y u v Q hdx hdy hu hx hy h;cases x with
  |t l=>exact absurd hdx (by show ¬(TK.depths l+1<=0);omega)
  |k a =>
   cases y with
   |t l=>exact absurd hdy (by show ¬(TK.depths l+1<=0);omega)
   |k b=>exact leaves hx hy h
 |succ d ih =>
  intro A E s x y u v Q hdx hdy hu hx hy h;cases x with
  |k a =>
   cases y with
   |k b=>exact leaves hx hy h
   |t l =>
    rw[zzr0 (by intro z;cases z)]at h;exact mixed1 (by omega) hx hy h
  |t l =>
   cases y with
   |k b =>
    rw[zzr0 (by intro z;cases z)]at h;exact mixed2 (by omega) hx hy h
   |t m =>
    have hl:TK.depths l<=d:=by have:TK.depths l+1<=d+1:=hdx;omega
    have hm:TK.depths m<=d:=by have:TK.depths m+1<=d+1:=hdy;omega
    have hx0:=hx;have hy0:=hy;obtain⟨a,oa,xs,na,rfl,hoa,hca,hda,hia⟩:=hx;obtain⟨b,ob,ys,nb,rfl,hob,hcb,hdb,hib⟩:=hy;have hTa:s.TypeIs (.ref a) "tuple":=⟨oa,hoa,hca⟩;have hTb:s.TypeIs (.ref b) "tuple":=⟨ob,hob,hcb⟩;have hd':decide (TK.t l=TK.t m)=decide (l=m):=by
     by_cases e:l=m
     ·subst e;simp
     ·have:¬(TK.t l=TK.t m):=fun z=>e (by injection z);rw[zzr0 this,zzr0 e]
    unfold eqBool
    try with_reducible refine ji ?_
    show wpAny _ _ (if(Value.ref a==Value.ref b)=true then _ else _) Q E s
    by_cases hab:(Value.ref a==Value.ref b)=true
    ·rw[if_pos hab];have e:a=b:=by have:=eq_of_beq hab;injection this
     subst e;have e2:TK.t l=TK.t m:=jf.inj _ (aD _) hx0 hy0;rw[zzr1 e2]at h;exact am (l7 (aW h))
    ·rw[if_neg hab];rw[hd']at h;exact am (wpAny_richCompare_same_room (op:=.Eq) hTa hTb F.slot_tuple_eq
      (wW F.slot_tuple_eq hTa F.entry_tuple_eq (w_ d (fun h1 h2 h3 h4 h5 h6=>ih h1 h2 h3 h4 h5 h6) hl hm (by show A.units+1+d<cLine;omega) hoa hda hia hob hcb hdb hib ⟨_,rfl,(fun e=>nomatch e),ni h⟩) (F.args_tuple_eq_2 _ _)) (by omega))
theorem yv:∀(d:Nat) {A:Around}{E:Zc}{s:Shared}{k:TK}{v:Value}{Q:Bool->Shared->Prop},k.depth<=d->jf s.heap k v->Q true s->wpAny (model prog w) A (eqIsQuiet d v) Q E s:=by
 intro d
 induction d with
 |zero =>
  intro A E s k v Q hd hk h;cases k with
  |t l=>exact absurd hd (by show ¬(TK.depths l+1<=0);omega)
  |k a=>rw[eqIsQuiet_byValue _ ((bo prog w).byValue a v hk)];exact aW h
 |succ d ih =>
  intro A E s k v Q hd hk h;cases k with
  |k a=>rw[eqIsQuiet_byValue _ ((bo prog w).byValue a v hk)];exact aW h
  |t l =>
   have hl:TK.depths l<=d:=by have:TK.depths l+1<=d+1:=hd;omega
   obtain⟨a,o,items,n,rfl,ho,hc,hdt,hi⟩:=hk;have hT:s.TypeIs (.ref a) "tuple":=⟨o,ho,hc⟩;unfold eqIsQuiet;refine am (Ac hT F.slot_tuple_eq.lookup ?_);show wpAny _ _ (isInstance (.ref a) (.type "tuple") >>= _) _ _ s;refine am (wpAny_isInstance hT isSubtype_tuple_tuple ?_);simp only[vP,sK,if_false];refine am (jh ho hdt ?_);refine am ?_;show wpAny _ _ (forIn items _ _) _ _ s;rw[<-Array.forIn_toList];refine wpAny_forIn_list _ (fun rest r s'=>r.1=none/\s'=s/\∃left,TAts s.heap left rest/\TK.depths left<=d) _ ?_ ?_ _ _ ⟨rfl,rfl,l,hi,hl⟩
   ·rintro v rest r s' ⟨hr,rfl,left,hall,hdl⟩;cases left with
    |nil=>have e:v::rest=[]:=hall;cases e
    |cons k' left =>
     obtain⟨v',rest',e,h1,h2⟩:=hall;cases e;have hdl':max k'.depth (TK.depths left)<=d:=hdl;refine am (ih (k:=k') (by omega) h1 ?_);simp only[vP,sK,if_false];exact aW ⟨rfl,rfl,left,h2,by omega⟩
   ·rintro⟨r1,r2⟩ s' ⟨hr,rfl,_⟩;simp only at hr;subst hr;exact aW h
def dE(prog:bj)(w:World):HeapKind prog w TK where
 is:=fun h k a=>jf h k (.ref a)/\k.depth<=8
 hash:=TK.hash w
 draws:=TK.draws
 room:=fun A=>A.units+8<cLine
 inj:=fun hx hy=>jf.inj 8 hx.2 hx.1 hy.1
 keeps:=fun{h h' k a d o es ep} x ho hd hs=>⟨jf.mono (fun b ob items n hb _ hdb=>(hs.2 b fun e=>by
  subst e;rw[ho]at hb;cases hb;rw[hd]at hdb;cases hdb).trans hb) 8 x.2 x.1,x.2⟩
 pyHash:=fun hu hk h=>Ai 8 hk.2 hu hk.1 h
 eqBool:=fun hu hx hy h=>CT 8 hx.2 hy.2 hu hx.1 hy.1 h
 quiet:=fun hk h=>yv 8 hk.2 hk.1 h
end
end L2
namespace L2
open PySem PySem.Spec PyProof.Rows
inductive V where
 |non|bl (b:Bool)|int (i:Int)|str (x:Str)|byt (b:Array UInt8)|flt (b:UInt64)|ref (a:Addr)|ty (n:String)
 deriving DecidableEq
def RelV:V->Value->Prop
 |.non,u=>u=Value.none
 |.bl b,u=>u=Value.bool b
 |.int i,u=>∃t,u=Value.int i t
 |.str x,u=>∃t,u=Value.str x t
 |.byt b,u=>∃t,u=Value.bytes b t
 |.flt b,u=>∃t,u=Value.float b t
 |.ref a,u=>u=Value.ref a
 |.ty n,u=>u=Value.type n
abbrev aK:List V->List Value->Prop:=Paired RelV
theorem aK.length{xs:List V}{us:Zf}(r:aK xs us):xs.length=us.length:=Paired.length r
theorem aK.get:∀{xs:List V}{us:Zf}{i:Nat}{x:V},aK xs us->xs[i]?=some x->∃u,us[i]?=some u/\RelV x u
 |_,_,_,_,.nil,e=>by simp at e
 |_,_,0,_,.cons r _,e=>by simp at e;subst e;exact⟨_,rfl,r⟩
 |_,_,i+1,x,.cons _ t,e=>by
  obtain⟨u,h1,h2⟩:=aK.get (i:=i) (x:=x) t (by simpa using e);exact⟨u,by simpa using h1,h2⟩
theorem aK.set{x:V}{u:Value}(r:RelV x u):∀{xs:List V}{us:Zf}(i:Nat),aK xs us->aK (xs.set i x) (us.set i u)
 |_,_,_,.nil=>.nil
 |_,_,0,.cons _ t=>.cons r t
 |_,_,i+1,.cons q t=>.cons q (aK.set r i t)
theorem aK.append:∀{xs ys:List V}{us ws:Zf},aK xs us->aK ys ws->aK (xs++ys) (us++ws)
 |_,_,_,_,.nil,s=>s
 |_,_,_,_,.cons r t,s=>.cons r (aK.append t s)
theorem aK.take:∀{xs:List V}{us:Zf}(n:Nat),aK xs us->aK (xs.take n) (us.take n)
 |_,_,0,_=>.nil
 |_,_,_+1,.nil=>.nil
 |_,_,n+1,.cons r t=>.cons r (aK.take n t)
theorem aK.drop:∀{xs:List V}{us:Zf}(n:Nat),aK xs us->aK (xs.drop n) (us.drop n)
 |_,_,0,r=>r
 |_,_,_+1,.nil=>.nil
 |_,_,n+1,.cons _ t=>aK.drop n t
def gK:Option V->Option Value->Prop
 |some v,some u=>RelV v u
 |none,none=>True
 |_,_=>False
def KV{κ:Type}:List (κ×V)->List (κ×Value)->Prop:=Paired fun(p:κ×V) (q:κ×Value)=>p.1=q.1/\RelV p.2 q.2
def kV:cG->V
 |.inl i=>.int i
 |.inr x=>.str x
inductive HO where
 |lst (xs:List V)
 |tup (xs:List V)
 |dK (kvs:List (cG×V))|dT (kvs:List (TK×V))
 |set (S:Int->Bool) (n:Nat)
 |ins (C dx:Addr) (fs:List (Str×V))
 |own (x:Addr)
 |xd (fs:List (Str×V))
 |met (f x:Addr)
 |rng (lo hi:Int)
 |frz (o:Obj) (u:HO)
 |tbl (ps:Array Value)
 |ext (φ:Heap->Prop)
abbrev Hp:=Addr->Option HO
mutual
def fJ(H:Hp):TK->V->Prop
 |.k a,v=>v=kV a
 |.t l,v=>∃b xs,v=.ref b/\H b=some (.tup xs)/\TKAts H l xs
def TKAts(H:Hp):List TK->List V->Prop
 |[],vs=>vs=[]
 |k::r,vs=>∃v us,vs=v::us/\fJ H k v/\TKAts H r us
end
def Bc(K:Za)(H:Hp)(a:Addr)(xs:List V):Prop :=
 H a=some (.tup xs)∨∃(o:Obj) (its:Array Value) (n:Nat),K.lookup a=some o/\o.cls=.type "tuple"/\o.data=.seq its n/\its.size<=aj/\aK xs its.toList
theorem Bc.keeps{K:Za}{H H':Hp}{a:Addr}{xs:List V}(h:Bc K H a xs)(ht:∀b xs,H b=some (.tup xs)->H' b=some (.tup xs)):Bc K H' a xs:=h.imp (ht a xs) id
mutual
def ue(K:Za)(H:Hp):TK->V->Prop
 |.k a,v=>v=kV a
 |.t l,v=>∃b xs,v=.ref b/\Bc K H b xs/\TKCs K H l xs
def TKCs(K:Za)(H:Hp):List TK->List V->Prop
 |[],vs=>vs=[]
 |k::r,vs=>∃v us,vs=v::us/\ue K H k v/\TKCs K H r us
end
theorem ue.keeps{K:Za}{H H':Hp}(ht:∀b xs,H b=some (.tup xs)->H' b=some (.tup xs)):∀(d:Nat) {k:TK}{v:V},k.depth<=d->ue K H k v->ue K H' k v:=by
 have key:∀(d:Nat) (ih:∀{k:TK}{v:V},k.depth<=d->ue K H k v->ue K H' k v) (xs:List TK) (vs:List V),TK.depths xs<=d->TKCs K H xs vs->TKCs K H' xs vs:=by
  intro d ih xs
  induction xs with
  |nil=>intro vs _ hx;exact hx
  |cons x xs ihl =>
   intro vs hd hx;obtain⟨v,us,rfl,hx1,hx2⟩:=hx;have hd':max x.depth (TK.depths xs)<=d:=hd;exact⟨v,us,rfl,ih (by omega) hx1,ihl us (by omega) hx2⟩
 intro d
 induction d with
 |zero =>
  intro k v hd hx;cases k with
  |t l=>exact absurd hd (by show ¬(TK.depths l+1<=0);omega)
  |k a=>exact hx
 |succ d ih =>
  intro k v hd hx;cases k with
  |k a=>exact hx
  |t l =>
   obtain⟨b,xs,rfl,hb,hi⟩:=hx;exact⟨b,xs,rfl,hb.keeps ht,key d (fun h1=>ih h1) l xs (by have:TK.depths l+1<=d+1:=hd;omega) hi⟩
theorem fJ.c{K:Za}{H:Hp}:∀(d:Nat) {k:TK}{v:V},k.depth<=d->fJ H k v->ue K H k v:=by
 have key:∀(d:Nat) (ih:∀{k:TK}{v:V},k.depth<=d->fJ H k v->ue K H k v) (xs:List TK) (vs:List V),TK.depths xs<=d->TKAts H xs vs->TKCs K H xs vs:=by
  intro d ih xs
  induction xs with
  |nil=>intro vs _ hx;exact hx
  |cons x xs ihl =>
   intro vs hd hx;obtain⟨v,us,rfl,hx1,hx2⟩:=hx;have hd':max x.depth (TK.depths xs)<=d:=hd;exact⟨v,us,rfl,ih (by omega) hx1,ihl us (by omega) hx2⟩
 intro d
 induction d with
 |zero =>
  intro k v hd hx;cases k with
  |t l=>exact absurd hd (by show ¬(TK.depths l+1<=0);omega)
  |k a=>exact hx
 |succ d ih =>
  intro k v hd hx;cases k with
  |k a=>exact hx
  |t l =>
   obtain⟨b,xs,rfl,hb,hi⟩:=hx;exact⟨b,xs,rfl,.inl hb,key d (fun h1=>ih h1) l xs (by have:TK.depths l+1<=d+1:=hd;omega) hi⟩
def upd(H:Hp)(a:Addr)(o:HO):Hp:=fun b=>if b=a then some o else H b
theorem aa{H:Hp}{a:Addr}{o:HO}:upd H a o a=some o:=by unfold upd;rw[if_pos rfl]
theorem ai{H:Hp}{a b:Addr}{o:HO}(h:b≠a):upd H a o b=H b:=by unfold upd;rw[if_neg h]
theorem mI{H:Hp}{a:Addr}{o u:HO}:upd (upd H a o) a u=upd H a u:=by
 funext b;unfold upd;split<;>rfl
theorem Bv{H:Hp}{a b:Addr}{o u:HO}(h:H a=some o)(h':H b=some u)(d:o≠u):a≠b:=by
 intro e;subst e;rw[h]at h';exact d (c7 h')
theorem ah{H:Hp}{a b:Addr}{o:HO}(h:H a=some o)(h':H b=none):a≠b:=by
 intro e;subst e;rw[h]at h';cases h'
section
variable(P:bj)(w:World)(K:Za)
def bS(H:Hp)(h:Heap)(a:Addr):HO->Prop
 |.lst xs=>xs.length<=aj/\∃(its:Zf) (n:Nat),aK xs its/\h.get? a=some { cls:=.type "list",data:=.seq its.toArray n }
 |.tup xs=>xs.length<=aj/\∃its:List Value,aK xs its/\IsTup h a its.toArray
 |.dK kvs=>kvs.length<=aj/\(a==gA)=false/\∃vs,KV kvs vs/\h.DictOf (bo P w) a vs
 |.dT kvs=>kvs.length<=aj/\(a==gA)=false/\∃xs:List (TK×Addr×Value),
   Paired (fun(p:TK×V) (q:TK×Addr×Value)=>p.1=q.1/\ue K H p.1 (.ref q.2.1)/\p.1.depth<=8/\RelV p.2 q.2.2) kvs xs /\
   ∃o es ep,h.get? a=some o/\o.ExactDict/\o.data=.dict es ep/\es.toList=xs.map (entryOfKey (dE P w))/\(xs.map (·.1)).Nodup
 |.set S n=>h.SetOf (intKind P w) a S n
 |.ins C dx fs=>H dx=some (.own a)/\fs.length<=1000/\dx≠a/\h.get? a=some (l5 C dx) /\
   ∃mA,h.Ns1 dx mA/\(∀f,gK (fs.lookup f) (mA f))/\PySem.Within mA (fs.map (·.1))
 |.own _=>∃o,h.get? a=some o
 |.xd fs=>∃mA,h.Ns1 a mA/\∀f,gK (fs.lookup f) (mA f)
 |.rng lo hi=>∃t u v,h.get? a=some { cls:=.type "range",data:=.fields #[.int lo t,.int hi u,.int 1 v] }
 |.frz o u=>h.get? a=some o/\bS H h a u
 |.tbl ps=>h.get? a=some { cls:=.none,data:=.fields ps }
 |.met f x=>h.get? a=some (PySem.W.methodObj (.ref f) (.ref x))
 |.ext φ=>φ h/\(∃o,h.get? a=some o)/\∀h1 h2:Heap,φ h1->(∀o,h1.get? a=some o->h2.get? a=some o)->φ h2
def iL(H:Hp)(h:Heap):Prop:=∀a o,H a=some o->bS P w K H h a o
end
section
variable{P:bj}{w:World}{K:Za}{H H':Hp}{h h':Heap}{a:Addr}{o:HO}
theorem bS.lt(x:bS P w K H h a o):a<h.objs.size:=by
 cases o with
 |lst xs=>obtain⟨_,_,_,_,e⟩:=x;exact aE e
 |tup xs=>obtain⟨_,_,_,p⟩:=x;exact p.lt
 |dK kvs=>obtain⟨_,_,_,_,o,_,_,e,_⟩:=x;exact aE e
 |dT kvs=>obtain⟨_,_,_,_,o,_,_,e,_⟩:=x;exact aE e
 |set S n=>obtain⟨o,_,_,_,e,_⟩:=x;exact aE e
 |ins C dx fs=>obtain⟨_,_,_,e,_⟩:=x;exact aE e
 |own y=>obtain⟨_,e⟩:=x;exact aE e
 |xd fs=>obtain⟨_,⟨_,_,_,e,_⟩,_⟩:=x;exact aE e
 |rng lo hi=>obtain⟨_,_,_,e⟩:=x;exact aE e
 |frz ob u=>obtain⟨e,_⟩:=x;exact aE e
 |tbl ps=>exact aE (show h.get? a=some _ from x)
 |met f y=>exact aE (show h.get? a=some _ from x)
 |ext φ=>obtain⟨_,⟨_,e⟩,_⟩:=x;exact aE e
theorem Paired.mapP{α β:Type}{F G:α->β->Prop}:∀{l₁:List α}{l₂:List β},Paired F l₁ l₂->(∀a b,F a b->G a b)->Paired G l₁ l₂
 |_,_,.nil,_=>.nil
 |_,_,.cons r t,f=>.cons (f _ _ r) (Paired.mapP t f)
theorem bS.stay(x:bS P w K H h a o)(k:∀b u,(b=a∨H b=some (.own a))->h.get? b=some u->h'.get? b=some u)
  (ho:∀b,H b=some (.own a)->H' b=some (.own a)) (ht:∀b xs,H b=some (.tup xs)->H' b=some (.tup xs)):bS P w K H' h' a o:=by
 induction o with
 |lst xs=>obtain⟨z,its,n,r,e⟩:=x;exact⟨z,its,n,r,k _ _ (.inl rfl) e⟩
 |tup xs=>obtain⟨z,its,r,ob,e,c⟩:=x;exact⟨z,its,r,ob,k _ _ (.inl rfl) e,c⟩
 |dK kvs=>obtain⟨z,y,vs,r,ob,es,ep,e,c⟩:=x;exact⟨z,y,vs,r,ob,es,ep,k _ _ (.inl rfl) e,c⟩
 |dT kvs =>
  obtain⟨z,y,xs,r,ob,es,ep,e,c⟩:=x;exact⟨z,y,xs,Paired.mapP r fun p q z=>⟨z.1,ue.keeps ht 8 z.2.2.1 z.2.1,z.2.2⟩,ob,es,ep,k _ _ (.inl rfl) e,c⟩
 |set S n=>obtain⟨ob,es,ep,t,e,c⟩:=x;exact⟨ob,es,ep,t,k _ _ (.inl rfl) e,c⟩
 |ins C dx fs =>
  obtain⟨d,z,ne,e,mA,⟨od,es,ep,e2,c⟩,r⟩:=x;exact⟨ho _ d,z,ne,k _ _ (.inl rfl) e,mA,⟨od,es,ep,k _ _ (.inr d) e2,c⟩,r⟩
 |own y=>obtain⟨ob,e⟩:=x;exact⟨ob,k _ _ (.inl rfl) e⟩
 |xd fs=>obtain⟨mA,⟨od,es,ep,e,c⟩,r⟩:=x;exact⟨mA,⟨od,es,ep,k _ _ (.inl rfl) e,c⟩,r⟩
 |rng lo hi=>obtain⟨t,u,v,e⟩:=x;exact⟨t,u,v,k _ _ (.inl rfl) e⟩
 |frz ob u ih=>obtain⟨e,q⟩:=x;exact⟨k _ _ (.inl rfl) e,ih q⟩
 |tbl ps =>
  have e:h.get? a=some { cls:=.none,data:=.fields ps }:=x;show h'.get? a=some { cls:=.none,data:=.fields ps };exact k a _ (.inl rfl) e
 |met f y =>
  have e:h.get? a=some (PySem.W.methodObj (.ref f) (.ref y)):=x;show h'.get? a=some (PySem.W.methodObj (.ref f) (.ref y));exact k a _ (.inl rfl) e
 |ext φ=>obtain⟨p,⟨o,e⟩,st⟩:=x;exact⟨st _ _ p fun o q=>k _ _ (.inl rfl) q,⟨o,k _ _ (.inl rfl) e⟩,st⟩
theorem iL.lt(x:iL P w K H h)(e:H a=some o):a<h.objs.size:=(x a o e).lt
theorem iL.fresh(x:iL P w K H h)(e:h.objs.size<=a):H a=none:=by
 cases q:H a with
 |none=>rfl
 |some u=>exact absurd (d5 (x.lt q) e) (lZ _)
theorem iL.kept(x:iL P w K H h)(k:∀b u,h.get? b=some u->h'.get? b=some u):iL P w K H h':=fun a o e =>
 (x a o e).stay (fun b u _ q=>k b u q) (fun _ q=>q) fun _ _ q=>q
theorem iL.laid(x:iL P w K H h)(k:∀b u,h.get? b=some u->h'.get? b=some u)(hp:h.objs.size<=a)(new:bS P w K (upd H a o) h' a o):iL P w K (upd H a o) h':=fun b u e=>by
 have hn:=x.fresh hp;by_cases hb:b=a
 ·subst hb;rw[aa]at e;cases e;exact new
 ·rw[ai hb]at e;exact(x b u e).stay (fun c v _ q=>k c v q) (fun c q=>by rw[ai (ah q hn)];exact q) fun c xs q=>by rw[ai (ah q hn)];exact q
end
def Rd(H:Hp)(a:Addr)(u:HO):Prop:=H a=some u∨∃o,H a=some (.frz o u)
theorem Rd.ok{P:bj}{w:World}{K:Za}{H:Hp}{h:Heap}{a:Addr}{u:HO}(r:Rd H a u)(x:iL P w K H h):bS P w K H h a u:=by
 rcases r with r|⟨o,r⟩
 ·exact x a u r
 ·obtain⟨_,q⟩:=x a _ r;exact q
def Dy:Option HO->Prop
 |some (.lst _)=>True
 |some (.dK _)=>True
 |some (.dT _)=>True
 |some (.set _ _)=>True
 |some (.ins _ _ _)=>True
 |some (.ext _)=>True
 |_=>False
section
variable{P:bj}{w:World}{K:Za}{H:Hp}{h h':Heap}{x e:Addr}{o':HO}
theorem iL.write(ok:iL P w K H h)(mu:Dy (H x))(he:e=x∨H e=some (.own x))(k:∀b u,b≠e->h.get? b=some u->h'.get? b=some u)(heo:∃u,h'.get? e=some u)
  (new:bS P w K (upd H x o') h' x o'):iL P w K (upd H x o') h':=fun b u q=>by
 have nown:∀c y,H c=some (.own y)->c≠x:=fun c y r z=>by subst z;rw[r]at mu;exact mu
 have ntup:∀c xs,H c=some (.tup xs)->c≠x:=fun c xs r z=>by subst z;rw[r]at mu;exact mu
 by_cases hb:b=x
 ·subst hb;rw[aa]at q;cases q;exact new
 ·rw[ai hb]at q;by_cases hbe:b=e
  ·have q':H b=some (.own x):=by
    rcases he with z|z
    ·exact absurd (hbe.trans z) hb
    ·rw[hbe];exact z
   rw[q]at q';cases q';obtain⟨v,hv⟩:=heo;exact⟨v,by rw[hbe];exact hv⟩
  ·refine(ok b u q).stay (fun c v hc r=>k c v ?_ r) (fun c r=>by rw[ai (nown c b r)];exact r) fun c xs r=>by rw[ai (ntup c xs r)];exact r
   rcases hc with rfl|hc
   ·exact hbe
   ·rintro rfl;rcases he with z|z
    ·exact nown c b hc z
    ·rw[hc]at z;cases z;exact hb rfl
end
structure Un(fs ex:Ze)(H H':Hp)(h h':Heap):Prop where
 keep:∀b o,h.get? b=some o->H b=none->b∉fs->b∉ex->h'.get? b=some o
 slot:∀b o,h.get? b=some o->H b=none->b∈fs->b∉ex->∃sl,h'.get? b=some { o with slots:=sl }
 free:∀b o,h.get? b=some o->H b=none->b∉ex->H' b=none
 there:∀b o,h.get? b=some o->b∉ex->∃o',h'.get? b=some o'
 tups:∀b xs,H b=some (.tup xs)->H' b=some (.tup xs)
 frzs:∀b o u,H b=some (.frz o u)->H' b=some (.frz o u)
 tbls:∀b ps,H b=some (.tbl ps)->∃more,H' b=some (.tbl (ps++more))
section
variable{fs fs' ex ex':Ze}{H H1 H2:Hp}{h h1 h2 h':Heap}{a x e:Addr}{o:HO}
theorem Un.any(u:Un fs ex H H1 h h1){b:Addr}{ob:Obj}(q:h.get? b=some ob)(n:H b=none)(hx:b∉ex):∃sl,h1.get? b=some { ob with slots:=sl }:=by
 by_cases hb:b∈fs
 ·exact u.slot b ob q n hb hx
 ·exact⟨ob.slots,u.keep b ob q n hb hx⟩
theorem Un.kept(k:∀b u,h.get? b=some u->h'.get? b=some u):Un fs ex H H h h' :=
 ⟨fun b ob q _ _ _=>k b ob q,fun b ob q _ _ _=>⟨ob.slots,k b ob q⟩,fun _ _ _ n _=>n,fun b ob q _=>⟨ob,k b ob q⟩,fun _ _ q=>q,fun _ _ _ q=>q,fun _ ps q=>⟨#[],by rw[q];simp⟩⟩
theorem Un.refl:Un fs ex H H h h:=Un.kept fun _ _ q=>q
theorem Un.laid(k:∀b u,h.get? b=some u->h'.get? b=some u)(hp:h.objs.size<=a)(hn:H a=none):Un fs ex H (upd H a o) h h' where
 keep:=fun b u q _ _ _=>k b u q
 slot:=fun b u q _ _ _=>⟨u.slots,k b u q⟩
 free:=fun b u q n _=>by rw[ai (bP (d5 (aE q) hp))];exact n
 there:=fun b u q _=>⟨u,k b u q⟩
 tups:=fun b xs q=>by rw[ai (ah q hn)];exact q
 frzs:=fun b u xs q=>by rw[ai (ah q hn)];exact q
 tbls:=fun b ps q=>⟨#[],by rw[ai (ah q hn),q];simp⟩
theorem Un.write(mu:Dy (H x))(he:e=x∨H e=some (.own x))(k:∀b u,b≠e->h.get? b=some u->h'.get? b=some u)(heo:∃u,h'.get? e=some u):Un fs ex H (upd H x o) h h':=by
 have hx:∀b,H b=none->b≠x:=fun b n z=>by subst z;rw[n]at mu;exact mu
 have hb:∀b,H b=none->b≠e:=fun b n z=>by
  subst z;rcases he with r|r
  ·exact hx b n r
  ·rw[n]at r;cases r
 have hm:∀b u,H b=some u->¬Dy (some u)->b≠x:=fun b u q nm z=>by subst z;rw[q]at mu;exact nm mu
 refine⟨fun b u q n _ _=>k b u (hb b n) q,fun b u q n _ _=>⟨u.slots,k b u (hb b n) q⟩,fun b u q n _=>by rw[ai (hx b n)];exact n,fun b u q _=>?_,
  fun b xs q=>by rw[ai (hm b _ q fun z=>z)];exact q,fun b u xs q=>by rw[ai (hm b _ q fun z=>z)];exact q,fun b ps q=>⟨#[],by rw[ai (hm b _ q fun z=>z),q];simp⟩⟩
 by_cases hbe:b=e
 ·subst hbe;exact heo
 ·exact⟨u,k b u hbe q⟩
end
def trk(h:Heap)(H:Hp):List Addr:=(j1 h.objs.size).filter fun a=>(H a).isSome
def rH(h:Heap)(H:Hp):Heap:=PySem.W.hideAll h (trk h H)
theorem xP(h:Heap)(H:Hp):(rH h H).objs.size=h.objs.size:=PySem.W.hideAll_size _ _
theorem zu{h:Heap}{H:Hp}{b:Addr}{o:Obj}(e:h.get? b=some o)(n:H b=none):(rH h H).get? b=some o :=
 PySem.W.hideAll_get _ e fun hm=>by
  have q:(H b).isSome=true:=(List.mem_filter.mp hm).2;rw[n]at q;simp at q
theorem AQ{h:Heap}{H:Hp}{b:Addr}{o:Obj}(e:(rH h H).get? b=some o):h.get? b=some o/\H b=none:=by
 have e':h.get? b=some o:=PySem.W.of_hideAll (trk h H) e;refine⟨e',?_⟩;cases q:H b with
 |none=>rfl
 |some x =>
  have hm:b∈trk h H:=List.mem_filter.mpr ⟨List.mem_range.mpr (aE e'),by simp[q]⟩;have z:(rH h H).get? b=none:=PySem.W.hideAll_none (trk h H) hm;rw[z]at e;cases e
end L2
namespace L2
open PySem PySem.Spec PyProof.Rows
structure Mod(K:Za)(mg:Str->Option Value)(base:Heap):Prop where
 kin:K.In base
 glob:base.Ns bh mg
 blt:∃mb,base.Ns builtinsNs mb/\∀x:Str,x≠"__name__"->mb x=fS x
 nolimit:base.NoLimit
structure Cx where
 prog:bj
 w:World
 K:Za
 mg:Str->Option Value
 base:Heap
 A:Around
 N:List Str
 s₀:Shared
 H₀:Hp
 env:Env
 outer:List Env
 stack:List Env
 ex:List Addr
 fn:Str->Bool
 calm:Bool
 pn:List (Addr×Obj)
 xe:Value->Shared->Prop
def pc(l:List Env):List Addr:=l.filterMap (·.frame)
abbrev Cx.fs(X:Cx):List Addr:=pc X.outer
def Vis(sc:Scope)(x:Str):Prop:=sc.names.lookup x=some .local∨sc.names.lookup x=some .cell∨sc.names.lookup x=some .free
def Loc(sc:Scope)(x:Str):Prop:=sc.names.lookup x=some .local∨sc.names.lookup x=some .cell
def Look(env:Env)(h:Heap)(m:Str->Option Value)(x:Str)(u:Value):Prop :=
 (env.kindOf x=some .local/\m x=some u)∨((env.kindOf x=some .cell∨env.kindOf x=some .free)/\∃c,env.cells.lookup x=some c/\h.IsCell c (some u))
structure Cx.Ok(X:Cx):Prop where
 mod:Mod X.K X.mg X.base
 kind:X.env.scope.kind=.function
 glob:X.env.globals=bh
 blt:X.env.builtins=builtinsNs
 above:X.s₀.heap.objs.size<=X.env.locals
 inj:∀x y c,X.env.cells.lookup x=some c->X.env.cells.lookup y=some c->x=y
 has:∀x,(X.env.kindOf x=some .cell∨X.env.kindOf x=some .free)->∃c,X.env.cells.lookup x=some c
 cab:∀x c,X.fn x=true->X.env.cells.lookup x=some c->X.s₀.heap.objs.size<=c
 hd:X.calm=true->X.A.handled=none
 frames:X.A.frames=some X.stack
 stk:X.stack=X.outer∨(X.stack=X.env::X.outer/\X.env.frame=some X.env.locals)
 exf:∀b∈X.ex,b≠X.env.locals/\∀x c,X.env.cells.lookup x=some c->c≠b
 bs:∀b o,X.base.get? b=some o->X.s₀.heap.get? b=some o/\X.H₀ b=none
 bsz:X.base.objs.size<=X.s₀.heap.objs.size
 noex:∀b o,X.base.get? b=some o->b∉X.ex
 exfs:∀b∈X.ex,b∉X.fs
 funs:X.s₀.heap.FunFrames X.base X.outer
 frf:∀b∈X.fs,X.H₀ b=none
structure Inv(X:Cx)(J3:Zd)(σ:List (Option V))(H:Hp)(s:Shared):Prop where
 ok:X.Ok
 os:s.os=X.s₀.os
 bare:jZ s.gens
 base:Un X.fs X.ex X.H₀ H X.s₀.heap s.heap
 loc:∃m,s.heap.Ns X.env.locals m/\∀(i:Nat) (x:Str) (v:V),X.N[i]?=some x->σ[i]?=some (some v)->Vis X.env.scope x->∃u,RelV v u/\Look X.env s.heap m x u
 cell:∀x c,X.env.cells.lookup x=some c->∃v,s.heap.IsCell c v
 free:H X.env.locals=none
 freeC:∀x c,X.env.cells.lookup x=some c->H c=none
 pin:∀p∈X.pn++J3,s.heap.get? p.1=some p.2/\H p.1=none/\p.1≠X.env.locals/\p.1∉X.fs/\∀v,p.2.data≠.cell v
 hok:iL X.prog X.w X.K H s.heap
 len:σ.length=X.N.length
section
variable{X:Cx}{J3:Zd}{σ:List (Option V)}{H H':Hp}{s:Shared}{h':Heap}
theorem Cx.Ok.nofr(ok:X.Ok){b:Addr}{o:Obj}(e:X.base.get? b=some o):b∉X.fs:=fun hb=>by
 have:=(ok.funs.mem hb).1;rw[e]at this;cases this
theorem Inv.bs(I:Inv X J3 σ H s):∀b o,X.base.get? b=some o->s.heap.get? b=some o/\H b=none:=fun b o e =>
 ⟨I.base.keep b o (I.ok.bs b o e).1 (I.ok.bs b o e).2 (I.ok.nofr e) (I.ok.noex b o e),I.base.free b o (I.ok.bs b o e).1 (I.ok.bs b o e).2 (I.ok.noex b o e)⟩
theorem Inv.bk(I:Inv X J3 σ H s):∀b o,X.base.get? b=some o->s.heap.get? b=some o:=fun b o e=>(I.bs b o e).1
theorem Inv.mod(I:Inv X J3 σ H s):Mod X.K X.mg X.base:=I.ok.mod
theorem Inv.kIn(I:Inv X J3 σ H s):X.K.In s.heap:=I.ok.mod.kin.keeps I.bk
theorem Inv.fr(I:Inv X J3 σ H s):∃m,Fr X.base X.env.locals s.heap m :=
 let⟨m,hn,_⟩:=I.loc
 ⟨m,hn,I.bk,bF I.ok.bsz I.ok.above⟩
theorem Inv.lt(I:Inv X J3 σ H s):X.env.locals<s.heap.objs.size:=let⟨_,hn,_⟩:=I.loc;hn.lt
theorem Inv.sz(I:Inv X J3 σ H s):X.s₀.heap.objs.size<=s.heap.objs.size:=bF I.ok.above (fR I.lt)
theorem Inv.nofs(I:Inv X J3 σ H s){a:Addr}(h:s.heap.objs.size<=a):a∉X.fs:=fun hb=>by
 obtain⟨_,o,ho,_⟩:=I.ok.funs.mem hb;exact absurd (d5 (aE ho) (bF I.sz h)) (lZ _)
theorem Inv.cne(I:Inv X J3 σ H s):∀x c,X.env.cells.lookup x=some c->c≠X.env.locals:=fun x c e z=>by
 obtain⟨v,o,ho,hd⟩:=I.cell x c e;obtain⟨m,⟨o',es,ep,ho',hd',_⟩,_⟩:=I.loc;rw[z,ho']at ho;cases ho;rw[hd']at hd;cases hd
theorem Inv.funs(I:Inv X J3 σ H s):s.heap.FunFrames X.base X.outer:=by
 have all:∀(l:List Env),(∀b∈pc l,b∈X.fs)->X.s₀.heap.FunFrames X.base l->s.heap.FunFrames X.base l:=by
  intro l
  induction l with
  |nil=>intro _ _;trivial
  |cons env r ih =>
   intro hs hl;obtain⟨hk,⟨L,o,hf,hn,ho,hd⟩,hr⟩:=hl;have hL:L∈X.fs:=hs L (by unfold pc;rw[pA,hf];exact bY);obtain⟨sl,e⟩:=I.base.slot L o ho (I.ok.frf L hL) hL fun z=>I.ok.exfs L z hL;exact⟨hk,⟨L,_,hf,hn,e,hd⟩,ih (fun b hb=>hs b (by unfold pc;rw[pA,hf];exact cg _ hb)) hr⟩
 exact all X.outer (fun _ hb=>hb) I.ok.funs
theorem Inv.stack(I:Inv X J3 σ H s):s.heap.FunFrames X.base X.stack:=by
 rcases I.ok.stk with e|⟨e,hf⟩
 ·rw[e];exact I.funs
 ·rw[e];obtain⟨m,hn,_⟩:=I.loc;refine .cons (by rw[I.ok.kind];decide) hf hn ?_ I.funs;exact Heap.get?_none_of_le (bF I.ok.bsz I.ok.above)
theorem Inv.stkSub(I:Inv X J3 σ H s):∀b∈pc X.stack,b∈X.env.locals::X.fs:=fun b hb=>by
 rcases I.ok.stk with e|⟨e,hf⟩
 ·rw[e]at hb;exact cg _ hb
 ·rw[e]at hb;unfold pc at hb;rw[pA,hf]at hb;exact hb
theorem Inv.stkFree(I:Inv X J3 σ H s):∀b∈pc X.stack,H b=none:=fun b hb=>by
 rcases bg.mp (I.stkSub b hb)with e|hb
 ·rw[e];exact I.free
 ·obtain⟨_,o,ho,_⟩:=I.ok.funs.mem hb;exact I.base.free b o ho (I.ok.frf b hb) fun z=>I.ok.exfs b z hb
theorem Inv.step{g':Array GenState}{t':Nat}{d':Drawn}{ch:Ze}(I:Inv X J3 σ H s)
  (hch:∀b∈ch,(b∈X.ex∨X.s₀.heap.objs.size<=b)/\b≠X.env.locals/\(∀x c,X.env.cells.lookup x=some c->c≠b)/\∀p∈X.pn++J3,p.1≠b)
  (keep:∀b o,b≠X.env.locals->b∉X.fs->b∉ch->s.heap.get? b=some o->H b=none->h'.get? b=some o)
  (slot:∀b o,b≠X.env.locals->b∈X.fs->b∉ch->s.heap.get? b=some o->H b=none->∃sl,h'.get? b=some { o with slots:=sl }) (free:∀b o,b∉ch->s.heap.get? b=some o->H b=none->H' b=none)
  (there:∀b o,b∉ch->s.heap.get? b=some o->∃o',h'.get? b=some o')
  (tups:∀b xs,H b=some (.tup xs)->H' b=some (.tup xs)) (frzs:∀b o u,H b=some (.frz o u)->H' b=some (.frz o u)) (tbls:∀b ps,H b=some (.tbl ps)->∃more,H' b=some (.tbl (ps++more)))
  (ns:∀m,s.heap.Ns X.env.locals m->h'.Ns X.env.locals m) (hok:iL X.prog X.w X.K H' h') (hg:jZ g') :
  Inv X J3 σ H' { s with heap:=h',gens:=g',drawn:=d',toks:=t' }:=by
 have neL:∀b o,X.s₀.heap.get? b=some o->b≠X.env.locals:=fun b o e=>bP (d5 (aE e) I.ok.above);have neC:∀b o,X.s₀.heap.get? b=some o->b∉X.ex->b∉ch:=fun b o e hx hb=>by
  rcases(hch b hb).1 with z|z
  ·exact hx z
  ·exact absurd (d5 (aE e) z) (lZ _)
 have cellK:∀x c,X.env.cells.lookup x=some c->∀v,s.heap.IsCell c v->h'.IsCell c v:=fun x c e v ⟨o,ho,hd⟩=>by
  have nch:c∉ch:=fun z=>(hch c z).2.2.1 x c e rfl;by_cases hc:c∈X.fs
  ·obtain⟨sl,q⟩:=slot c o (I.cne x c e) hc nch ho (I.freeC x c e);exact⟨_,q,hd⟩
  ·exact⟨o,keep c o (I.cne x c e) hc nch ho (I.freeC x c e),hd⟩
 refine⟨I.ok,I.os,hg,⟨fun b o e n hb hx=>?_,fun b o e n hb hx=>?_,fun b o e n hx=>?_,fun b o e hx=>?_,fun b xs e=>tups b xs (I.base.tups b xs e),fun b o xs e=>frzs b o xs (I.base.frzs b o xs e),fun b ps e=>?_⟩,?_,fun x c e=>?_,?_,fun x c e=>?_,fun p hp=>?_,hok,I.len⟩
 ·exact keep b o (neL b o e) hb (neC b o e hx) (I.base.keep b o e n hb hx) (I.base.free b o e n hx)
 ·obtain⟨sl,e1⟩:=I.base.slot b o e n hb hx;obtain⟨sl',e2⟩:=slot b _ (neL b o e) hb (neC b o e hx) e1 (I.base.free b o e n hx);exact⟨sl',e2⟩
 ·obtain⟨o',e1⟩:=I.base.there b o e hx;exact free b o' (neC b o e hx) e1 (I.base.free b o e n hx)
 ·obtain⟨o',e1⟩:=I.base.there b o e hx;exact there b o' (neC b o e hx) e1
 ·obtain⟨m1,e1⟩:=I.base.tbls b ps e;obtain⟨m2,e2⟩:=tbls b _ e1;exact⟨m1++m2,by rw[e2,Array.append_assoc]⟩
 ·obtain⟨m,hn,hl⟩:=I.loc;refine⟨m,ns m hn,fun i x v e1 e2 e3=>?_⟩;obtain⟨u,r,l⟩:=hl i x v e1 e2 e3;refine⟨u,r,?_⟩;rcases l with l|⟨k,c,e,z⟩
  ·exact .inl l
  ·exact .inr ⟨k,c,e,cellK x c e _ z⟩
 ·obtain⟨v,z⟩:=I.cell x c e;exact⟨v,cellK x c e v z⟩
 ·obtain⟨m,⟨o,_,_,ho,_⟩,_⟩:=I.loc;exact free _ o (fun z=>(hch _ z).2.1 rfl) ho I.free
 ·obtain⟨v,o,ho,hd⟩:=I.cell x c e;exact free c o (fun z=>(hch c z).2.2.1 x c e rfl) ho (I.freeC x c e)
 ·obtain⟨e,n,ne,nf,d⟩:=I.pin p hp;have nch:p.1∉ch:=fun z=>(hch p.1 z).2.2.2 p hp rfl;exact⟨keep p.1 p.2 ne nf nch e n,free p.1 p.2 nch e n,ne,nf,d⟩
theorem Inv.un{t':Nat}(I:Inv X J3 σ H s)(u:Un X.fs [] H H' s.heap h')(hok:iL X.prog X.w X.K H' h'):Inv X J3 σ H' { s with heap:=h',toks:=t' }:=by
 obtain⟨m,⟨o,es,ep,ho,r⟩,_⟩:=id I.loc;obtain⟨sl,hL⟩:=u.any ho I.free (by simp);exact I.step (g':=s.gens) (d':=s.drawn) (ch:=[]) (fun _ z=>nomatch z) (fun b o _ hb _ e n=>u.keep b o e n hb (by simp)) (fun b o _ hb _ e n=>u.slot b o e n hb (by simp)) (fun b o _ e n=>u.free b o e n (by simp)) (fun b o _ e=>u.there b o e (by simp)) u.tups u.frzs u.tbls (fun m' hm=>by
  obtain⟨o',es',ep',ho',r'⟩:=hm;rw[ho]at ho';cases ho';exact⟨_,es',ep',hL,r'⟩) hok I.bare
theorem Inv.call{g':Array GenState}{t':Nat}{d':Drawn}{ch:Ze}(I:Inv X J3 σ H s)(u:Un (pc X.stack) ch H H' s.heap h')(hok:iL X.prog X.w X.K H' h')(hg:jZ g')
  (hch:∀b∈ch,(b∈X.ex∨X.s₀.heap.objs.size<=b)/\b≠X.env.locals/\(∀x c,X.env.cells.lookup x=some c->c≠b)/\∀p∈X.pn++J3,p.1≠b) :
  Inv X J3 σ H' { s with heap:=h',gens:=g',drawn:=d',toks:=t' }:=by
 obtain⟨m,⟨o,es,ep,ho,r⟩,_⟩:=id I.loc;obtain⟨sl,hL⟩:=u.any ho I.free fun z=>(hch _ z).2.1 rfl;exact I.step (ch:=ch) hch (fun b o hL hb hc e n=>u.keep b o e n (fun z=>(bg.mp (I.stkSub b z)).elim hL hb) hc) (fun b o _ _ hc e n=>u.any e n hc) (fun b o hc e n=>u.free b o e n hc) (fun b o hc e=>u.there b o e hc) u.tups u.frzs u.tbls (fun m' hm=>by
  obtain⟨o',es',ep',ho',r'⟩:=hm;rw[ho]at ho';cases ho';exact⟨_,es',ep',hL,r'⟩) hok hg
theorem Inv.turned{t':Nat}{it:Addr}(I:Inv X J3 σ H s)(k:∀b o,b≠it->s.heap.get? b=some o->h'.get? b=some o)(hn:H it=none)(hL:it≠X.env.locals)
  (h1:it∈X.ex∨X.s₀.heap.objs.size<=it) (h2:∀x c,X.env.cells.lookup x=some c->c≠it) (h3:∀p∈X.pn++J3,p.1≠it):Inv X J3 σ H { s with heap:=h',toks:=t' }:=by
 have nit:∀b u,H b=some u->b≠it:=fun b u e z=>by rw[z,hn]at e;cases e
 refine I.step (g':=s.gens) (d':=s.drawn) (ch:=[it]) (fun b hb=>?_) (fun b o _ _ hc e _=>k b o (fun z=>hc (by simp[z])) e) (fun b o _ _ hc e _=>⟨o.slots,k b o (fun z=>hc (by simp[z])) e⟩) (fun _ _ _ _ n=>n)
  (fun b o hc e=>⟨o,k b o (fun z=>hc (by simp[z])) e⟩) (fun _ _ e=>e) (fun _ _ _ e=>e) (fun b ps e=>⟨#[],by rw[e];simp⟩) (fun m hm=>?_) (fun b u e=>?_) I.bare
 ·have e:b=it:=by simpa using hb
  subst e;exact⟨h1,hL,h2,h3⟩
 ·obtain⟨o,es,ep,ho,r⟩:=hm;exact⟨o,es,ep,k _ o (cO hL) ho,r⟩
 ·refine(I.hok b u e).stay (fun c v hc q=>k c v ?_ q) (fun _ q=>q) fun _ _ q=>q;rcases hc with z|z
  ·rw[z];exact nit b u e
  ·exact nit c _ z
theorem Inv.tok(I:Inv X J3 σ H s)(t:Nat):Inv X J3 σ H { s with toks:=t }:=I.un (h':=s.heap) (t':=t) Un.refl I.hok
theorem Inv.kept{t':Nat}(I:Inv X J3 σ H s)(k:∀b u,s.heap.get? b=some u->h'.get? b=some u):Inv X J3 σ H { s with heap:=h',toks:=t' }:=I.un (Un.kept k) (I.hok.kept k)
theorem Inv.laid{a:Addr}{o:HO}{t':Nat}(I:Inv X J3 σ H s)(k:∀b u,s.heap.get? b=some u->h'.get? b=some u)(hp:s.heap.objs.size<=a)(new:bS X.prog X.w X.K (upd H a o) h' a o):
  Inv X J3 σ (upd H a o) { s with heap:=h',toks:=t' }:=I.un (Un.laid k hp (I.hok.fresh hp)) (I.hok.laid k hp new)
theorem Inv.write{x e:Addr}{o:HO}{t':Nat}(I:Inv X J3 σ H s)(mu:Dy (H x))(he:e=x∨H e=some (.own x))(k:∀b u,b≠e->s.heap.get? b=some u->h'.get? b=some u)(heo:∃u,h'.get? e=some u)
  (new:bS X.prog X.w X.K (upd H x o) h' x o):Inv X J3 σ (upd H x o) { s with heap:=h',toks:=t' }:=I.un (Un.write mu he k heo) (I.hok.write mu he k heo new)
theorem Inv.weak{σ':List (Option V)}(I:Inv X J3 σ H s)(hl:σ'.length=σ.length)(w:∀(i:Nat) v,σ'[i]?=some (some v)->σ[i]?=some (some v)):Inv X J3 σ' H s :=
 ⟨I.ok,I.os,I.bare,I.base,let⟨m,hn,hl'⟩:=I.loc;⟨m,hn,fun i x v e1 e2 e3=>hl' i x v e1 (w i v e2) e3⟩,I.cell,I.free,I.freeC,I.pin,I.hok,hl.trans I.len⟩
theorem Inv.pins_of{pins':Zd}(I:Inv X J3 σ H s)(h:∀p∈pins',s.heap.get? p.1=some p.2/\H p.1=none/\p.1≠X.env.locals/\p.1∉X.fs/\∀v,p.2.data≠.cell v):Inv X pins' σ H s :=
 ⟨I.ok,I.os,I.bare,I.base,I.loc,I.cell,I.free,I.freeC,fun p hp=>(bO.mp hp).elim (fun z=>I.pin p (fx _ z)) (h p),I.hok,I.len⟩
theorem n_{N:Zb}(hN:N.Nodup){i j:Nat}{x:Str}(a:N[i]?=some x)(b:N[j]?=some x):i=j:=by
 obtain⟨h1,e1⟩:=db.mp a;obtain⟨h2,e2⟩:=db.mp b;exact(List.getElem_inj hN).mp (e1.trans e2.symm)
theorem pG{M:Model}{A:Around}{E:Zc}{i:Nat}{x:Str}{v:V}{u:Value}{Q:Unit->Shared->Prop}(I:Inv X J3 σ H s)(hN:X.N.Nodup)(hi:X.N[i]?=some x)(hx:Loc X.env.scope x)(r:RelV v u)
  (h:∀s',Inv X J3 (σ.set i (some v)) H s'->(∃a,gy a s.heap s'.heap/\(a=X.env.locals∨X.env.cells.lookup x=some a))->Q () s') (hf:X.fn x=true∨X.env.scope.names.lookup x=some .local:=by first|exact .inl rfl|exact .inr rfl|assumption):wpAny M A (storeName X.env x u) Q E s:=by
 obtain⟨m,hn,hl⟩:=id I.loc;have hcls:(X.env.scope.kind==.class || (X.env.scope.kind==.module && X.env.locals != X.env.globals))=false:=by rw[I.ok.kind];rfl
 have hiσ:i<σ.length:=by rw[I.len];exact(db.mp hi).1
 have cne:=I.cne;have tracked:∀{a:Addr}{h':Heap},(∃o,s.heap.get? a=some o/\H a=none)->gy a s.heap h'->iL X.prog X.w X.K H h':=fun{a h'} ha hs b ob e=>by
  obtain⟨_,_,hfree⟩:=ha;refine(I.hok b ob e).stay (fun c w' hc q=>(hs.2 c ?_).trans q) (fun _ q=>q) fun _ _ q=>q;rintro rfl;rcases hc with rfl|hc
  ·rw[hfree]at e;cases e
  ·rw[hfree]at hc;cases hc
 rcases hx with hk|hk
 ·refine wpAny_storeName_local hk hn (fun h' hn' hs=>?_) hcls;obtain⟨oL,_,_,hoL,_⟩:=id hn;refine h _ ⟨I.ok,I.os,I.bare,⟨fun b o e n hb hx=>?_,fun b o e n hb hx=>?_,I.base.free,fun b o e hx=>?_,I.base.tups,I.base.frzs,I.base.tbls⟩,⟨_,hn',fun j y v' e1 e2 e3=>?_⟩,fun y c e=>?_,I.free,I.freeC,fun p hp=>?_,tracked ⟨oL,hoL,I.free⟩ hs,by simpa using I.len⟩ ⟨_,hs,.inl rfl⟩
  ·exact(hs.2 b (bP (d5 (aE e) I.ok.above))).trans (I.base.keep b o e n hb hx)
  ·obtain⟨sl,e1⟩:=I.base.slot b o e n hb hx;exact⟨sl,(hs.2 b (bP (d5 (aE e) I.ok.above))).trans e1⟩
  ·obtain⟨o',e1⟩:=I.base.there b o e hx;exact⟨o',(hs.2 b (bP (d5 (aE e) I.ok.above))).trans e1⟩
  ·by_cases hj:j=i
   ·subst hj;rw[hi]at e1;cases e1;rw[List.getElem?_set_self hiσ]at e2;cases e2;exact⟨u,r,.inl ⟨hk,by simp⟩⟩
   ·rw[vO (cO hj)]at e2;obtain⟨u',r',q⟩:=hl j y v' e1 e2 e3;refine⟨u',r',?_⟩;rcases q with⟨k,e⟩|⟨k,c,e,z⟩
    ·refine .inl ⟨k,?_⟩;have:y≠x:=fun e=>hj (n_ hN e1 (e▸hi));simp[this,e]
    ·exact .inr ⟨k,c,e,z.sameBut hs (cne y c e)⟩
  ·obtain⟨w',z⟩:=I.cell y c e;exact⟨w',z.sameBut hs (cne y c e)⟩
  ·obtain⟨e,n,ne,nf,d⟩:=I.pin p hp;exact⟨(hs.2 p.1 ne).trans e,n,ne,nf,d⟩
 ·have hfn:X.fn x=true:=by
   rcases hf with z|z
   ·exact z
   ·rw[z]at hk;cases hk
  obtain⟨c,hc⟩:=I.ok.has x (.inl hk);obtain⟨w',z⟩:=I.cell x c hc;refine wpAny_storeName_cell I.ok.kind hk hc z (fun h' hc' hs=>?_);obtain⟨oc,hoc,hocd⟩:=id z;refine h { s with heap:=h' } ⟨I.ok,I.os,I.bare,⟨fun b o e n hb hx=>?_,fun b o e n hb hx=>?_,I.base.free,fun b o e hx=>?_,I.base.tups,I.base.frzs,I.base.tbls⟩,⟨m,hn.sameBut hs (cO (cne x c hc)),fun j y v' e1 e2 e3=>?_⟩,fun y c' e=>?_,I.free,I.freeC,fun p hp=>?_,tracked ⟨oc,hoc,I.freeC x c hc⟩ hs,by simpa using I.len⟩ ⟨c,hs,.inr hc⟩
  ·exact(hs.2 b (bP (d5 (aE e) (I.ok.cab x c hfn hc)))).trans (I.base.keep b o e n hb hx)
  ·obtain⟨sl,e1⟩:=I.base.slot b o e n hb hx;exact⟨sl,(hs.2 b (bP (d5 (aE e) (I.ok.cab x c hfn hc)))).trans e1⟩
  ·obtain⟨o',e1⟩:=I.base.there b o e hx;exact⟨o',(hs.2 b (bP (d5 (aE e) (I.ok.cab x c hfn hc)))).trans e1⟩
  ·by_cases hj:j=i
   ·subst hj;rw[hi]at e1;cases e1;rw[List.getElem?_set_self hiσ]at e2;cases e2;exact⟨u,r,.inr ⟨.inl hk,c,hc,hc'⟩⟩
   ·rw[vO (cO hj)]at e2;obtain⟨u',r',q⟩:=hl j y v' e1 e2 e3;refine⟨u',r',?_⟩;rcases q with q|⟨k,c',e,z'⟩
    ·exact .inl q
    ·refine .inr ⟨k,c',e,z'.sameBut hs ?_⟩;rintro rfl;exact hj (n_ hN e1 (I.ok.inj _ _ _ e hc▸hi))
  ·by_cases hcc:c'=c
   ·subst hcc;exact⟨_,hc'⟩
   ·obtain⟨w2,z2⟩:=I.cell y c' e;exact⟨w2,z2.sameBut hs hcc⟩
  ·obtain⟨e,n,ne,nf,d⟩:=I.pin p hp;refine⟨(hs.2 p.1 ?_).trans e,n,ne,nf,d⟩;intro q;rw[q,hoc]at e;have q':oc=p.2:=c7 e;exact d w' (by rw[<-q'];exact hocd)
theorem nQ{M:Model}{A:Around}{E:Zc}{i:Nat}{x:Str}{v:V}{u:Value}{Q:Unit->Shared->Prop}(I:Inv X J3 σ H s)(hN:X.N.Nodup)(hi:X.N[i]?=some x)(hx:Loc X.env.scope x)(r:RelV v u)
  (h:∀s',Inv X J3 (σ.set i (some v)) H s'->Q () s') (hf:X.fn x=true∨X.env.scope.names.lookup x=some .local:=by first|exact .inl rfl|exact .inr rfl|assumption):wpAny M A (storeName X.env x u) Q E s :=
 pG I hN hi hx r (fun s' I' _=>h s' I') hf
theorem Inv.call'{s':Shared}{ch:Ze}(I:Inv X J3 σ H s)(ho:s'.os=s.os)(u:Un (pc X.stack) ch H H' s.heap s'.heap)(hok:iL X.prog X.w X.K H' s'.heap)(hg:jZ s'.gens)
  (hch:∀b∈ch,(b∈X.ex∨X.s₀.heap.objs.size<=b)/\b≠X.env.locals/\(∀x c,X.env.cells.lookup x=some c->c≠b)/\∀p∈X.pn++J3,p.1≠b):Inv X J3 σ H' s':=by
 obtain⟨h',g',d',t',o'⟩:=s';have e:o'=s.os:=ho;subst e;exact I.call (g':=g') (t':=t') (d':=d') u hok hg hch
end
abbrev XK:=Value->Option Addr->Hp->Prop
abbrev St:=List (Option V)
abbrev VK:=V->Hp->Prop
abbrev TE:=St->Hp->VK->Prop
abbrev TT:=St->Hp->(Bool->Hp->Prop)->Prop
abbrev TA:=St->Hp->(List V->Hp->Prop)->Prop
structure fK where
 nx:St->Hp->Prop
 rt:VK
 bk:St->Hp->Prop:=fun _ _=>False
 ct:St->Hp->Prop:=fun _ _=>False
abbrev cf(Q:VK):fK:={ nx:=fun _ H=>Q .non H,rt:=Q }
abbrev TS:=fK->St->Hp->Prop
def EP(X:Cx)(J3:Zd)(σ:St)(Q:VK)(u:Value)(s':Shared):Prop:=∃v H',Inv X J3 σ H' s'/\RelV v u/\Q v H'
def TP(X:Cx)(J3:Zd)(σ:St)(Q:Bool->Hp->Prop)(b:Bool)(s':Shared):Prop:=∃H',Inv X J3 σ H' s'/\Q b H'
def AP(X:Cx)(J3:Zd)(σ:St)(Q:List V->Hp->Prop)(us:Zf)(s':Shared):Prop:=∃vs H',Inv X J3 σ H' s'/\aK vs us/\Q vs H'
def SP(X:Cx)(J3:Zd)(D:fK)(f:Flow)(s':Shared):Prop :=
 match f with
 |.next=>∃σ' H',Inv X J3 σ' H' s'/\D.nx σ' H'
 |.brk=>∃σ' H',Inv X J3 σ' H' s'/\D.bk σ' H'
 |.cont=>∃σ' H',Inv X J3 σ' H' s'/\D.ct σ' H'
 |.ret u=>∃v σ' H',Inv X J3 σ' H' s'/\RelV v u/\D.rt v H'
def PE(X:Cx)(e:Expr)(t:TE):Prop :=
 ∀(J3:Zd) (s:Shared) (σ:St) (H:Hp) (Q:VK),Inv X J3 σ H s->t σ H Q->wpAny (model X.prog X.w) X.A (eval e X.env) (EP X J3 σ Q) X.xe s
def PT(X:Cx)(e:Expr)(t:TT):Prop :=
 ∀(J3:Zd) (s:Shared) (σ:St) (H:Hp) (Q:Bool->Hp->Prop),Inv X J3 σ H s->t σ H Q->wpAny (model X.prog X.w) X.A (isTrue e X.env (eval e X.env)) (TP X J3 σ Q) X.xe s
def PW(X:Cx)(e:Expr)(t:TT):Prop :=
 ∀(whole:Sem Value) (J3:Zd) (s:Shared) (σ:St) (H:Hp) (Q:Bool->Hp->Prop),Inv X J3 σ H s->t σ H Q->wpAny (model X.prog X.w) X.A (isTrue e X.env whole) (TP X J3 σ Q) X.xe s
theorem PW.pt{X:Cx}{e:Expr}{t:TT}(h:PW X e t):PT X e t:=h _
def PA(X:Cx)(es:List Expr)(t:TA):Prop :=
 ∀(pos:Pos) (J3:Zd) (s:Shared) (σ:St) (H:Hp) (Q:List V->Hp->Prop),Inv X J3 σ H s->t σ H Q->wpAny (model X.prog X.w) X.A (spliced (backTo pos (aG es X.env))) (AP X J3 σ Q) X.xe s
def PS(X:Cx)(st:Stmt)(t:TS):Prop :=
 ∀(J3:Zd) (s:Shared) (σ:St) (H:Hp) (D:fK),Inv X J3 σ H s->t D σ H->wpAny (model X.prog X.w) X.A (exec st X.env) (SP X J3 D) X.xe s
def t5(X:Cx)(st:List Stmt)(t:TS):Prop :=
 ∀(J3:Zd) (s:Shared) (σ:St) (H:Hp) (D:fK),Inv X J3 σ H s->t D σ H->wpAny (model X.prog X.w) X.A (execs st X.env) (SP X J3 D) X.xe s
theorem bV{α:Type}{t:Sem α}{Q Q':α->Shared->Prop}{M:Model}{A:Around}{E:Zc}{s:Shared}(h:wpAny M A t Q E s)(hQ:∀a s,Q a s->Q' a s):wpAny M A t Q' E s:=d4 h hQ fun _ _ x=>x
end L2
namespace L2
open PySem PySem.Spec PyProof.Rows
section
variable{X:Cx}
def ja(i:Nat):TE:=fun σ H Q=>∃v,σ[i]?=some (some v)/\Q v H
abbrev V0:TE:=ja 0
abbrev V1:TE:=ja 1
abbrev V2:TE:=ja 2
abbrev V3:TE:=ja 3
abbrev V4:TE:=ja 4
abbrev V5:TE:=ja 5
abbrev V6:TE:=ja 6
abbrev V7:TE:=ja 7
abbrev V8:TE:=ja 8
abbrev V9:TE:=ja 9
abbrev CM:TE:=ja 10
abbrev DQ:TE:=ja 11
abbrev DP:TE:=ja 12
def tC(v:V):TE:=fun _ H Q=>Q v H
theorem B8{i:Nat}{x:Str}{pos:Pos}(hN:X.N[i]?=some x)(hv:Vis X.env.scope x)(hd:(x==("__debug__":Str))=false:=by decide)(hcd:(x==("__classdict__":Str))=false:=by decide):PE X (.Name x pos) (ja i):=by
 intro J3 s σ H Q I h;obtain⟨v,e,h⟩:=h;obtain⟨m,hn,hl⟩:=I.loc;obtain⟨u,r,l⟩:=hl i x v hN e hv;have fin:EP X J3 σ Q u s:=⟨v,H,I,r,h⟩;rcases l with⟨hk,hm⟩|⟨hk,c,hc,hcell⟩
 ·exact wpAny_Name (wpAny_loadName_local I.ok.kind hk hn hm fin) hd
 ·rcases hk with hk|hk
  ·exact wpAny_Name (wpAny_loadName_cell I.ok.kind hk hc hcell fin) hd
  ·exact wpAny_Name (wpAny_loadName_free I.ok.kind hk hc hcell fin hcd) hd
theorem af{i j pos}:PE X (.Constant (.int i) j pos) (tC (.int i)):=fun _ _ _ H _ I h=>wpAny_Constant_int ⟨.int i,H,I.tok _,⟨_,rfl⟩,h⟩
theorem h9{b j pos}:PE X (.Constant (.bool b) j pos) (tC (.bl b)):=fun _ _ _ H _ I h=>Constant_bool ⟨.bl b,H,I,rfl,h⟩
theorem n5{j pos}:PE X (.Constant .none j pos) (tC .non):=fun _ _ _ H _ I h=>Constant_none ⟨.non,H,I,rfl,h⟩
theorem aN{x j pos}:PE X (.Constant (.str x) j pos) (tC (.str x)):=fun _ _ _ H _ I h=>Calls.Constant_str ⟨.str x,H,I.tok _,⟨_,rfl⟩,h⟩
def Gl(X:Cx)(x:Str):Prop:=X.env.kindOf x=some .globalImplicit
theorem mP{E:Zc}{J3:Zd}{s:Shared}{σ:St}{H:Hp}{x:Str}{u:Value}{pos:Pos}{Q:Zc}(I:Inv X J3 σ H s)(hg:Gl X x)(hm:X.mg x=some u)(h:Q u s)
  (hd:(x==("__debug__":Str))=false:=by decide):wpAny (model X.prog X.w) X.A (eval (.Name x pos) X.env) Q E s :=
 Calls.Name_function_global I.ok.kind hg (Calls.loadGlobal_global (by rw[I.ok.glob];exact I.mod.glob.keeps I.bk) hm h) hd
theorem lB{E:Zc}{J3:Zd}{s:Shared}{σ:St}{H:Hp}{x:Str}{u:Value}{pos:Pos}{Q:Zc}(I:Inv X J3 σ H s)(hg:Gl X x)(hm:X.mg x=none)(hv:fS x=some u)(h:Q u s)
  (hn:x≠"__name__":=by decide) (hd:(x==("__debug__":Str))=false:=by decide):wpAny (model X.prog X.w) X.A (eval (.Name x pos) X.env) Q E s:=by
 obtain⟨mb,h1,h2⟩:=I.mod.blt;exact Calls.Name_function_global I.ok.kind hg (Calls.loadGlobal_builtin (by rw[I.ok.glob];exact I.mod.glob.keeps I.bk) hm (by rw[I.ok.blt];exact h1.keeps I.bk) ((h2 x hn).trans hv) h) hd
theorem AJ{x:Str}{v:V}{u:Value}{pos:Pos}(hg:Gl X x)(hm:X.mg x=some u)(r:RelV v u)(hd:(x==("__debug__":Str))=false:=by decide):PE X (.Name x pos) (tC v) :=
 fun _ _ _ H _ I h=>mP I hg hm ⟨v,H,I,r,h⟩ hd
theorem kh{x:Str}{v:V}{u:Value}{pos:Pos}(hg:Gl X x)(hm:X.mg x=none)(hv:fS x=some u)(r:RelV v u)(hn:x≠"__name__":=by decide)(hd:(x==("__debug__":Str))=false:=by decide):PE X (.Name x pos) (tC v) :=
 fun _ _ _ H _ I h=>lB I hg hm hv ⟨v,H,I,r,h⟩ hn hd
variable{a b:Expr}{ta tb:TE}{pos:Pos}
def PC(X:Cx)(op:CmpOp)(a b:Expr)(t:TE):Prop :=
 ∀(J3:Zd) (s:Shared) (σ:St) (H:Hp) (Q:VK),Inv X J3 σ H s->t σ H Q ->
  wpAny (model X.prog X.w) X.A (eval a X.env) (fun v s₁=>wpAny (model X.prog X.w) X.A (eval b X.env) (fun u s₂=>wpAny (model X.prog X.w) X.A (da op v u) (EP X J3 σ Q) X.xe s₂) X.xe s₁) X.xe s
theorem tE(b:Expr){op:CmpOp}(h:op≠.In)(h2:op≠.NotIn):hW op b=false:=by
 have e1:(op==CmpOp.In)=false:=by cases op<;>first|rfl|exact absurd rfl h
 have e2:(op==CmpOp.NotIn)=false:=by cases op<;>first|rfl|exact absurd rfl h2
 cases b<;>simp[hW,e1,e2]
def yC(ta:TE):TE:=fun σ H Q=>ta σ H fun x H1=>Q (.bl (decide (x=.non))) H1
def Bl(ta:TE):TE:=fun σ H Q=>ta σ H fun x H1=>Q (.bl (!decide (x=.non))) H1
theorem RelV.none_iff{x:V}{v:Value}(r:RelV x v):(v==Value.none)=decide (x=.non):=by
 cases x with
 |non=>cases r;rfl
 |bl _=>cases r;rfl
 |int _=>obtain⟨t,rfl⟩:=r;rfl
 |str _=>obtain⟨t,rfl⟩:=r;rfl
 |byt _=>obtain⟨t,rfl⟩:=r;rfl
 |flt _=>obtain⟨t,rfl⟩:=r;rfl
 |ref _=>cases r;rfl
 |ty _=>cases r;rfl
theorem uT{j pos'}(ha:PE X a ta):PC X .Is a (.Constant .none j pos') (yC ta):=by
 intro J3 s σ H Q I h;refine bV (ha J3 s σ H _ I h) fun v s1 ⟨x,H1,I1,r1,q1⟩=>?_;exact Constant_none (is_none_gen ⟨.bl _,H1,I1,by rw[r1.none_iff];rfl,q1⟩)
theorem AM{j pos'}(ha:PE X a ta):PC X .IsNot a (.Constant .none j pos') (Bl ta):=by
 intro J3 s σ H Q I h;refine bV (ha J3 s σ H _ I h) fun v s1 ⟨x,H1,I1,r1,q1⟩=>?_;exact Constant_none (isnot_none_gen ⟨.bl _,H1,I1,by rw[r1.none_iff];rfl,q1⟩)
def tB(t:TE):TT:=fun σ H Q=>t σ H fun x H1=>∃c,x=.bl c/\Q c H1
theorem B_{op:CmpOp}{t:TE}(h:PC X op a b t)(h1:hW op b=false:=by first|exact tE _ (by decide) (by decide)|rfl):PE X (.Compare a [op] [b] pos) t:=fun J3 s σ H Q I hw=>wpAny_Compare1 (h J3 s σ H Q I hw) h1
theorem gX{op:CmpOp}{t:TE}(h:PC X op a b t)(h1:hW op b=false:=by first|exact tE _ (by decide) (by decide)|rfl):PT X (.Compare a [op] [b] pos) (tB t):=by
 intro J3 s σ H Q I hw;refine wpAny_isTrue_Compare1 (bV (h J3 s σ H _ I hw) fun v s1 h1=>bV h1 fun u s2 h2=>bV h2 fun c s3 ⟨x,H1,I1,r1,q1⟩=>?_) h1;obtain⟨d,rfl,q⟩:=q1;cases r1;exact ni ⟨H1,I1,q⟩
theorem eg{e:Expr}{t:TE}(h:PE X e t)(he:∀whole,isTrue e X.env whole=(do let v <- whole;sJ e.pos;lY [v] (truthy v)):=by intro _;rfl):PT X e (tB t):=by
 intro J3 s σ H Q I hw;refine isTrue_plain (bV (h J3 s σ H _ I hw) fun v s1 ⟨x,H1,I1,r1,q1⟩=>?_) (he _);obtain⟨d,rfl,q⟩:=q1;cases r1;exact ni ⟨H1,I1,q⟩
variable{tA tB':TT}{rest:List Expr}
def yF(t u:TT):TT:=fun σ H Q=>t σ H fun c H1=>if c=true then u σ H1 Q else Q false H1
def BS(t u:TT):TT:=fun σ H Q=>t σ H fun c H1=>if c=true then Q true H1 else u σ H1 Q
def qN(t:TT):TT:=fun σ H Q=>t σ H fun c H1=>Q (!c) H1
theorem rh(ha:PT X a tA):PW X (.BoolOp .And [a] pos) tA:=by
 intro wh J3 s σ H Q I h;refine isTrue_and (bV (ha J3 s σ H Q I h) fun c s1 e=>?_);cases c with
 |true=>exact isTrue_and_nil e
 |false=>exact e
theorem rg(ha:PT X a tA):PW X (.BoolOp .Or [a] pos) tA:=by
 intro wh J3 s σ H Q I h;refine isTrue_or (bV (ha J3 s σ H Q I h) fun c s1 e=>?_);cases c with
 |false=>exact isTrue_or_nil e
 |true=>exact e
theorem uQ(ha:PT X a tA)(hb:PW X (.BoolOp .And (b::rest) pos) tB'):PW X (.BoolOp .And (a::b::rest) pos) (yF tA tB'):=by
 intro wh J3 s σ H Q I h;refine isTrue_and (bV (ha J3 s σ H _ I h) fun c s1 ⟨H1,I1,q1⟩=>?_);cases c with
 |true=>exact hb wh J3 s1 σ H1 Q I1 q1
 |false=>exact⟨H1,I1,q1⟩
theorem pN(ha:PT X a tA)(hb:PW X (.BoolOp .Or (b::rest) pos) tB'):PW X (.BoolOp .Or (a::b::rest) pos) (BS tA tB'):=by
 intro wh J3 s σ H Q I h;refine isTrue_or (bV (ha J3 s σ H _ I h) fun c s1 ⟨H1,I1,q1⟩=>?_);cases c with
 |true=>exact⟨H1,I1,q1⟩
 |false=>exact hb wh J3 s1 σ H1 Q I1 q1
theorem jG(ha:PT X a tA):PT X (.UnaryOp .Not a pos) (qN tA):=by
 intro J3 s σ H Q I h;exact isTrue_not (ha J3 s σ H (fun c H1=>Q (!c) H1) I h)
def jl(ta tb:TE):TE:=fun σ H Q=>ta σ H fun x H1=>∃c,x=.bl c/\if c=true then tb σ H1 Q else Q (.bl false) H1
def yB(ta:TE):TE:=fun σ H Q=>ta σ H fun x H1=>∃c,x=.bl c/\Q (.bl (!c)) H1
theorem lm{op}{t:TE}(h:PE X a t):PE X (.BoolOp op [a] pos) t:=fun J3 s σ H Q I hw=>BoolOp_one (h J3 s σ H Q I hw)
theorem iD(ha:PE X a ta)(hb:PE X (.BoolOp .And (b::rest) pos) tb):PE X (.BoolOp .And (a::b::rest) pos) (jl ta tb):=by
 intro J3 s σ H Q I h;refine BoolOp_and (bV (ha J3 s σ H _ I h) fun v s1 ⟨x,H1,I1,r1,q1⟩=>?_);obtain⟨c,rfl,q1⟩:=q1;cases r1;refine ni ?_;cases c with
 |true=>exact hb J3 s1 σ H1 Q I1 q1
 |false=>exact⟨.bl false,H1,I1,rfl,q1⟩
theorem B9(ha:PE X a ta):PE X (.UnaryOp .Not a pos) (yB ta):=by
 intro J3 s σ H Q I h;refine UnaryOp_ (bV (ha J3 s σ H _ I h) fun v s1 ⟨x,H1,I1,r1,q1⟩=>?_);obtain⟨c,rfl,q1⟩:=q1;cases r1;exact not_of (ni ⟨.bl (!c),H1,I1,rfl,q1⟩)
def tIf(t:TT)(ta tb:TE):TE:=fun σ H Q=>t σ H fun c H1=>if c=true then ta σ H1 Q else tb σ H1 Q
theorem y3{c:Expr}(hc:PT X c tA)(ha:PE X a ta)(hb:PE X b tb):PE X (.IfExp c a b pos) (tIf tA ta tb):=by
 intro J3 s σ H Q I h;refine wpAny_IfExp (bV (hc J3 s σ H _ I h) fun d s1 ⟨H1,I1,q1⟩=>?_);cases d with
 |true=>exact ha J3 s1 σ H1 Q I1 q1
 |false=>exact hb J3 s1 σ H1 Q I1 q1
end
end L2
namespace L2
open PySem PySem.Spec PyProof.Rows
def aA(K:Za)(H:Hp)(a:Addr)(xs:List V):Prop :=
 Rd H a (.lst xs) ∨
  ∃(o:Obj) (its:Array Value) (n:Nat),K.lookup a=some o/\o.cls=.type "list"/\o.dict=none/\o.data=.seq its n/\its.size<=aj/\aK xs its.toList
def bN(K:Za)(H:Hp)(a:Addr)(xs:List V):Prop :=
 Rd H a (.tup xs) ∨
  ∃(o:Obj) (its:Array Value) (n:Nat),K.lookup a=some o/\o.cls=.type "tuple"/\o.data=.seq its n/\its.size<=aj/\aK xs its.toList
def absV:Value->Option V
 |.none=>some .non
 |.bool b=>some (.bl b)
 |.int i _=>some (.int i)
 |.str x _=>some (.str x)
 |.bytes b _=>some (.byt b)
 |.float b _=>some (.flt b)
 |.ref a=>some (.ref a)
 |.type n=>some (.ty n)
 |_=>none
theorem RelV.abs{x:V}{u:Value}(r:RelV x u):absV u=some x:=by
 cases x with
 |non=>cases r;rfl
 |bl _=>cases r;rfl
 |int _=>obtain⟨t,rfl⟩:=r;rfl
 |str _=>obtain⟨t,rfl⟩:=r;rfl
 |byt _=>obtain⟨t,rfl⟩:=r;rfl
 |flt _=>obtain⟨t,rfl⟩:=r;rfl
 |ref _=>cases r;rfl
 |ty _=>cases r;rfl
theorem RelV.inj{x y:V}{u:Value}(r:RelV x u)(q:RelV y u):x=y:=c7 (r.abs.symm.trans q.abs)
theorem aK.inj:∀{xs ys:List V}{us:Zf},aK xs us->aK ys us->xs=ys
 |_,_,_,.nil,.nil=>rfl
 |_,_,_,.cons r t,.cons r' t'=>by rw[r.inj r',aK.inj t t']
section
variable{X:Cx}{J3:Zd}{σ:St}{H:Hp}{s:Shared}{a:Addr}{xs ys:List V}
theorem aA.of{K:Za}(h:H a=some (.lst xs)):aA K H a xs:=.inl (.inl h)
theorem bN.of{K:Za}(h:H a=some (.tup xs)):bN K H a xs:=.inl (.inl h)
theorem Inv.list(I:Inv X J3 σ H s)(h:aA X.K H a xs):∃its:List Value,aK xs its/\PlainL s.heap a its.toArray/\xs.length<=aj:=by
 rcases h with h|⟨o,its,n,hk,hc,hd,hs,hz,r⟩
 ·obtain⟨z,its,n,r,e⟩:=h.ok I.hok;exact⟨its,r,⟨_,n,e,rfl,rfl,rfl⟩,z⟩
 ·refine⟨its.toList,r,⟨o,n,I.kIn a o hk,hc,hd,by simpa using hs⟩,?_⟩;have e:=r.length;simp only[lX]at e;omega
theorem Inv.tuple(I:Inv X J3 σ H s)(h:bN X.K H a xs):∃its:List Value,aK xs its/\IsTup s.heap a its.toArray/\xs.length<=aj:=by
 rcases h with h|⟨o,its,n,hk,hc,hs,hz,r⟩
 ·obtain⟨z,its,r,p⟩:=h.ok I.hok;exact⟨its,r,p,z⟩
 ·refine⟨its.toList,r,⟨o,I.kIn a o hk,hc,n,by simpa using hs⟩,?_⟩;have e:=r.length;simp only[lX]at e;omega
theorem Inv.list_inj(I:Inv X J3 σ H s)(h:aA X.K H a xs)(h':aA X.K H a ys):xs=ys:=by
 obtain⟨its,r,⟨o,n,e,_,_,d⟩,_⟩:=I.list h;obtain⟨its',r',⟨o',n',e',_,_,d'⟩,_⟩:=I.list h';rw[e]at e';cases e';rw[d]at d';injection d' with d1 _;have:its=its':=by simpa using congrArg Array.toList d1
 subst this;exact r.inj r'
theorem Inv.tuple_inj(I:Inv X J3 σ H s)(h:bN X.K H a xs)(h':bN X.K H a ys):xs=ys:=by
 obtain⟨its,r,⟨o,e,_,n,d⟩,_⟩:=I.tuple h;obtain⟨its',r',⟨o',e',_,n',d'⟩,_⟩:=I.tuple h';rw[e]at e';cases e';rw[d]at d';injection d' with d1 _;have:its=its':=by simpa using congrArg Array.toList d1
 subst this;exact r.inj r'
end
abbrev Cx.wish(X:Cx)(E:Zc):Cx:={ X with xe:=E }
abbrev Cx.nox(X:Cx):Cx:=X.wish fun _ _=>False
theorem Cx.Ok.wish{X:Cx}(ok:X.Ok)(E:Zc):(X.wish E).Ok :=
 ⟨ok.mod,ok.kind,ok.glob,ok.blt,ok.above,ok.inj,ok.has,ok.cab,ok.hd,ok.frames,ok.stk,ok.exf,ok.bs,ok.bsz,ok.noex,ok.exfs,ok.funs,ok.frf⟩
theorem Cx.Ok.unwish{X:Cx}{E:Zc}(ok:(X.wish E).Ok):X.Ok :=
 ⟨ok.mod,ok.kind,ok.glob,ok.blt,ok.above,ok.inj,ok.has,ok.cab,ok.hd,ok.frames,ok.stk,ok.exf,ok.bs,ok.bsz,ok.noex,ok.exfs,ok.funs,ok.frf⟩
section
variable{X:Cx}{J3:Zd}{σ:St}{H:Hp}{s:Shared}{E:Zc}
theorem Inv.wish(I:Inv X J3 σ H s)(E:Zc):Inv (X.wish E) J3 σ H s:=⟨I.ok.wish E,I.os,I.bare,I.base,I.loc,I.cell,I.free,I.freeC,I.pin,I.hok,I.len⟩
theorem Inv.unwish(I:Inv (X.wish E) J3 σ H s):Inv X J3 σ H s:=⟨I.ok.unwish,I.os,I.bare,I.base,I.loc,I.cell,I.free,I.freeC,I.pin,I.hok,I.len⟩
theorem SP.unwish{D:fK}{f:Flow}{s':Shared}(h:SP (X.wish E) J3 D f s'):SP X J3 D f s':=by
 cases f with
 |next=>obtain⟨σ',H',I,q⟩:=h;exact⟨σ',H',I.unwish,q⟩
 |brk=>obtain⟨σ',H',I,q⟩:=h;exact⟨σ',H',I.unwish,q⟩
 |cont=>obtain⟨σ',H',I,q⟩:=h;exact⟨σ',H',I.unwish,q⟩
 |ret u=>obtain⟨v,σ',H',I,r,q⟩:=h;exact⟨v,σ',H',I.unwish,r,q⟩
theorem t5.nox{st:List Stmt}{t:TS}(h:t5 X.nox st t):t5 X st t:=fun J3 s σ H D I hw =>
 d4 (h J3 s σ H D (I.wish _) hw) (fun _ _ q=>q.unwish) fun _ _ z=>fu z
end
section
variable{X:Cx}{st:Stmt}{rest:List Stmt}{t u:TS}{e:Expr}{te:TE}{pos:Pos}
def bT:TS:=fun D σ H=>D.nx σ H
def aw(t u:TS):TS:=fun D σ H=>t { D with nx:=u D } σ H
theorem aY:t5 X [] bT:=fun _ _ σ H _ I h=>pr ⟨σ,H,I,h⟩
theorem ac(h1:PS X st t)(h2:t5 X rest u):t5 X (st::rest) (aw t u):=by
 intro J3 s σ H D I h;refine wpAny_execs_cons (bV (h1 J3 s σ H { D with nx:=u D } I h) fun f s1 q=>?_);cases f with
 |next =>
  obtain⟨σ',H',I',q⟩:=q;exact h2 J3 s1 σ' H' D I' q
 |ret v=>exact q
 |brk=>exact q
 |cont=>exact q
theorem ag(h1:PS X st t):t5 X [st] t:=by
 intro J3 s σ H D I h;refine wpAny_execs_cons (bV (h1 J3 s σ H D I h) fun f s1 q=>?_);cases f with
 |next=>exact pr q
 |ret v=>exact q
 |brk=>exact q
 |cont=>exact q
theorem Inv.quiet{J3:Zd}{σ:St}{H:Hp}{s:Shared}(I:Inv X J3 σ H s):interactive X.env=false:=by simp[interactive,I.ok.kind]
def eG(te:TE):TS:=fun D σ H=>te σ H fun _ H1=>D.nx σ H1
theorem cq(he:PE X e te)(hs:mW e none pos.line X.env=pure false:=by rfl):PS X (.Expr e pos) (eG te):=by
 intro J3 s σ H D I h;exact wpAny_Expr_any (bV (he J3 s σ H _ I h) fun v s1 ⟨x,H1,I1,r1,q1⟩=>⟨σ,H1,I1,q1⟩) I.quiet hs
def bt(te:TE):TS:=fun D σ H=>te σ H D.rt
theorem ax(he:PE X e te):PS X (.Return (some e) pos) (bt te):=by
 intro J3 s σ H D I h;exact wpAny_Return_some (bV (he J3 s σ H _ I h) fun v s1 ⟨x,H1,I1,r1,q1⟩=>⟨x,σ,H1,I1,r1,q1⟩)
def du(c:TT)(t u:TS):TS:=fun D σ H=>c σ H fun b H1=>if b=true then t D σ H1 else u D σ H1
theorem cj{c:Expr}{a b:List Stmt}{tc:TT}(hc:PT X c tc)(ha:t5 X a t)(hb:t5 X b u):PS X (.If c a b pos) (du tc t u):=by
 intro J3 s σ H D I h;refine wpAny_If (bV (hc J3 s σ H _ I h) fun d s1 ⟨H1,I1,q1⟩=>?_);cases d with
 |true=>exact ha J3 s1 σ H1 D I1 q1
 |false=>exact hb J3 s1 σ H1 D I1 q1
def qO:TS:=fun _ _ _=>False
theorem nW:PS X st qO:=fun _ _ _ _ _ _ h=>h.elim
end
abbrev TG:=V->St->Hp->(St->Hp->Prop)->Prop
abbrev sw:=List V->St->Hp->(St->Hp->Prop)->Prop
def PG(X:Cx)(target:Expr)(t:TG):Prop :=
 ∀(J3:Zd) (s:Shared) (σ:St) (H:Hp) (v:V) (u:Value) (Q:St->Hp->Prop),Inv X J3 σ H s->RelV v u->t v σ H Q ->
  wpAny (model X.prog X.w) X.A (assign target X.env u) (fun _ s'=>∃σ' H',Inv X J3 σ' H' s'/\Q σ' H') X.xe s
def Dx(X:Cx)(ts:List Expr)(t:sw):Prop :=
 ∀(J3:Zd) (s:Shared) (σ:St) (H:Hp) (vs:List V) (us:Zf) (Q:St->Hp->Prop),Inv X J3 σ H s->aK vs us->t vs σ H Q ->
  wpAny (model X.prog X.w) X.A (assignInOrder ((lW ts X.env).map (·.2)) us) (fun _ s'=>∃σ' H',Inv X J3 σ' H' s'/\Q σ' H') X.xe s
abbrev CC:=V->V->V->Hp->(Hp->Prop)->Prop
def Dw(X:Cx)(t:CC):Prop :=
 ∀(J3:Zd) (s:Shared) (σ:St) (H:Hp) (o i v:V) (ov iv u:Value) (Q:Hp->Prop),Inv X J3 σ H s->RelV o ov->RelV i iv->RelV v u->t o i v H Q ->
  wpAny (model X.prog X.w) X.A (setItem ov iv u) (fun _ s'=>∃H',Inv X J3 σ H' s'/\Q H') X.xe s
section
variable{X:Cx}{pos:Pos}
def cF(i:Nat):TG:=fun v σ H Q=>Q (σ.set i (some v)) H
abbrev U0:TG:=cF 0
abbrev U1:TG:=cF 1
abbrev U2:TG:=cF 2
abbrev U3:TG:=cF 3
abbrev U4:TG:=cF 4
abbrev U5:TG:=cF 5
abbrev U6:TG:=cF 6
abbrev U7:TG:=cF 7
abbrev U8:TG:=cF 8
abbrev U9:TG:=cF 9
abbrev U10:TG:=cF 10
abbrev U11:TG:=cF 11
abbrev U12:TG:=cF 12
theorem v8{i:Nat}{x:Str}(hN:X.N.Nodup)(hi:X.N[i]?=some x)(hx:Loc X.env.scope x)(hf:X.fn x=true∨X.env.scope.names.lookup x=some .local:=by first|exact .inl rfl|exact .inr rfl|assumption):PG X (.Name x pos) (cF i):=by
 intro J3 s σ H v u Q I r h;exact wpAny_assign_Name (nQ I hN hi hx r (fun s' I'=>⟨_,H,I',h⟩) hf)
def ig:sw:=fun vs σ H Q=>vs=[]/\Q σ H
def bq(t:TG)(u:sw):sw:=fun vs σ H Q=>∃v r,vs=v::r/\t v σ H fun σ' H'=>u r σ' H' Q
theorem cY:Dx X [] ig:=by
 intro J3 s σ H vs us Q I r h;obtain⟨e,h⟩:=h;subst e;cases r;exact assignInOrder_nil ⟨σ,H,I,h⟩
theorem aB{e:Expr}{es:List Expr}{t:TG}{u:sw}(h1:PG X e t)(h2:Dx X es u)
  (hs:(lW (e::es) X.env).map (·.2)=assign e X.env::(lW es X.env).map (·.2):=by rfl):Dx X (e::es) (bq t u):=by
 intro J3 s σ H vs us Q I r h;obtain⟨v,vr,e1,h⟩:=h;subst e1;cases r with
 |cons r rr =>
  rw[hs];refine assignInOrder_cons (bV (h1 J3 s σ H _ _ _ I r h) fun _ s1 ⟨σ1,H1,I1,q1⟩=>?_);exact h2 J3 s1 σ1 H1 _ _ Q I1 rr q1
def iH(K:Za)(n:Nat)(t:sw):TG:=fun v σ H Q=>∃a xs,v=.ref a/\bN K H a xs/\xs.length=n/\t xs σ H Q
theorem eW{es:List Expr}{k:Nat}{t:sw}{n:Nat}(hc:X.calm=true)(h:Dx X es t)
  (hn:(lW es X.env).length=n:=by rfl) (hst:(lW es X.env).findIdx? (·.1)=none:=by rfl):PG X (.Tuple es k pos) (iH X.K n t):=by
 intro J3 s σ H v u Q I r hw;obtain⟨a,xs,e1,hq,hl,hw⟩:=hw;subst e1;cases r;obtain⟨its,rv,ht,hz⟩:=I.tuple hq;refine assign_Tuple_tuple (I.ok.hd hc) ht (by simp[hn,<-hl,rv.length]) hst fun h' hx=>?_;have I1:Inv X J3 σ H { s with heap:=h' }:=I.kept (t':=s.toks) fun b o e=>hx b o (bP (aE e)) e;exact h J3 _ σ H xs _ Q I1 (by simpa using rv) hw
def ve(to ti:TE)(t:CC):TG:=fun v σ H Q=>to σ H fun o H1=>ti σ H1 fun i H2=>t o i v H2 fun H3=>Q σ H3
theorem nY{o i:Expr}{to ti:TE}{t:CC}(ho:PE X o to)(hi:PE X i ti)(hs:Dw X t)
  (ha:∀v,assign (.Subscript o i pos) X.env v=(do
   let ov <- lY [v] (eval o X.env)
   let iv <- lY [v,ov] (eval i X.env)
   sJ pos
   lY [v,ov,iv] (setItem ov iv v)
   release [v,ov,iv] []):=by intro _;rfl):PG X (.Subscript o i pos) (ve to ti t):=by
 intro J3 s σ H v u Q I r h;rw[ha];refine am (ji (bV (ho J3 s σ H _ I h) fun ov s1 ⟨x,H1,I1,r1,q1⟩=>?_));refine am (ji (bV (hi J3 s1 σ H1 _ I1 q1) fun iv s2 ⟨y,H2,I2,r2,q2⟩=>?_));refine am (vN (am (ji (bV (hs J3 s2 σ H2 x y v ov iv u _ I2 r1 r2 r q2) fun _ s3 ⟨H3,I3,q3⟩=>?_))));exact wpAny_release ⟨σ,H3,I3,q3⟩
def aV(te:TE)(g:TG):TS:=fun D σ H=>te σ H fun x H1=>g x σ H1 D.nx
theorem iC{tg e:Expr}{te:TE}{g:TG}(he:PE X e te)(hg:PG X tg g)(hs:swapsWithSole [tg] e pos.line X.env=pure false:=by rfl)(hw:swappedStores [tg] e X.env=pure none:=by rfl)
  (h1:(lW [tg] X.env).map (·.2)=[assign tg X.env]:=by rfl):PS X (.Assign [tg] e pos) (aV te g):=by
 intro J3 s σ H D I h;refine wpAny_Assign_stores (bV (he J3 s σ H _ I h) fun v s1 ⟨x,H1,I1,r1,q1⟩=>?_) hs hw;rw[h1];exact bV (hg J3 s1 σ H1 x v _ I1 r1 q1) fun _ s2 q=>q
theorem B2{i:Nat}{x:Str}{e:Expr}{te:TE}{pos':Pos}(hN:X.N.Nodup)(hi:X.N[i]?=some x)(hx:Loc X.env.scope x)(he:PE X e te)(hs:mW e (some (.Name x pos')) pos.line X.env=pure false:=by rfl)(hf:X.fn x=true∨X.env.scope.names.lookup x=some .local:=by first|exact .inl rfl|exact .inr rfl|assumption):
  PS X (.Assign [.Name x pos'] e pos) (aV te (cF i)):=by
 intro J3 s σ H D I h;refine wpAny_Assign_Name (bV (he J3 s σ H _ I h) fun v s1 ⟨y,H1,I1,r1,q1⟩=>?_) hs;exact nQ I1 hN hi hx r1 (fun s2 I2=>⟨_,H1,I2,q1⟩) hf
end
section
variable{X:Cx}{pos:Pos}
def yz(c:TT)(tb:TS):TS:=fun D σ H=>∃W:Nat->St->Hp->Prop,(∃m,W m σ H)/\∀m σ H,W m σ H ->
 c σ H fun b H1=>if b=true then ∃N:St->Hp->Prop,(∀σ' H',N σ' H'->∃m',m'<m/\W m' σ' H')/\tb { D with nx:=N,ct:=N,bk:=D.nx } σ H1 else D.nx σ H1
theorem yZ{c:Expr}{body:List Stmt}{tc:TT}{tb:TS}(hp:PassesOwn (model X.prog X.w) X.A X.env X.xe)(hc:PT X c tc)(hb:t5 X body tb):PS X (.While c body [] pos) (yz tc tb):=by
 intro J3 s σ H D I h;obtain⟨W,⟨m0,w0⟩,turn⟩:=h;refine wpAny_While (codeAny_whileLoop (fun n s'=>∃σ' H',Inv X J3 σ' H' s'/\W n σ' H') ?_ m0 ⟨σ,H,I,w0⟩);rintro n s1 ⟨σ1,H1,I1,w1⟩;refine mV hp (bV (hc J3 s1 σ1 H1 _ I1 (turn n σ1 H1 w1)) fun b s2 ⟨H2,I2,q2⟩=>?_);cases b with
 |true =>
  obtain⟨N,hN,q2⟩:=q2;rw[if_pos rfl];refine mV hp (bV (hb J3 s2 σ1 H2 _ I2 q2) fun f s3 q3=>?_);cases f with
  |next =>
   obtain⟨σ3,H3,I3,n3⟩:=q3;obtain⟨m',hm,w3⟩:=hN σ3 H3 n3;exact⟨m',hm,σ3,H3,I3,w3⟩
  |cont =>
   obtain⟨σ3,H3,I3,n3⟩:=q3;obtain⟨m',hm,w3⟩:=hN σ3 H3 n3;exact⟨m',hm,σ3,H3,I3,w3⟩
  |brk=>exact q3
  |ret v=>exact q3
 |false =>
  rw[if_neg gw];exact pr ⟨σ1,H2,I2,q2⟩
end
structure It where
 go:Nat->Hp->Prop
 yld:Nat->Hp->V->Hp->Prop
 stop:Nat->Hp->Prop
def jU(X:Cx)(J3:Zd)(H:Hp)(b:Addr):Prop :=
 H b=none/\b≠X.env.locals/\b∉X.fs/\(b∈X.ex∨X.s₀.heap.objs.size<=b)/\(∀x c,X.env.cells.lookup x=some c->c≠b)/\∀p∈X.pn++J3,p.1≠b
theorem Inv.fpOk{X:Cx}{J3:Zd}{σ:St}{H H':Hp}{s:Shared}{b:Addr}(I:Inv X J3 σ H s)(hb:s.heap.objs.size<=b)(hn:H' b=none):jU X J3 H' b:=by
 refine⟨hn,dZ (d5 I.lt hb),I.nofs hb,.inr (bF I.sz hb),fun x c e z=>?_,fun p hp z=>?_⟩
 ·obtain⟨v,q⟩:=I.cell x c e;exact absurd (d5 q.lt (by rw[z];exact hb)) (lZ _)
 ·exact absurd (d5 (aE (I.pin p hp).1) (by rw[z];exact hb)) (lZ _)
structure pf(P:bj)(w:World)(K:Za)(tg:Expr)(J:It)(fp:Ze)(it:Addr)(tn:Nat->Heap->Prop):Prop where
 mem:it∈fp
 obj:∀i h,tn i h->∀b∈fp,∃o,h.get? b=some o/\∀v,o.data≠.cell v
 keep:∀i h h',tn i h->(∀b∈fp,∀o,h.get? b=some o->h'.get? b=some o)->tn i h'
 item:∀(X:Cx),X.prog=P->X.w=w->X.K=K->X.calm=true->∀(i:Nat) (J3:Zd) (s:Shared) (σ:St) (H:Hp) (E:Zc),Inv X J3 σ H s->(∀b∈fp,jU X J3 H b)->tn i s.heap->J.go i H ->
  wpAny (model P w) X.A (pyNext (.ref it)) (fun r s1=>∃u,r=some u /\
   wpAny (model P w) X.A (vM tg (.ref it) u) (fun _ s2=>∃x H',Inv X J3 σ H' s2/\RelV x u/\J.yld i H x H'/\tn (i+1) s2.heap/\∀b∈fp,H' b=none) E s1) E s
 done:∀(X:Cx),X.prog=P->X.w=w->X.K=K->X.calm=true->∀(i:Nat) (J3:Zd) (s:Shared) (σ:St) (H:Hp) (E:Zc),Inv X J3 σ H s->(∀b∈fp,jU X J3 H b)->tn i s.heap->J.stop i H ->
  wpAny (model P w) X.A (pyNext (.ref it)) (fun r s1=>r=none/\Inv X J3 σ H s1) E s
 self:∀(A:Around) (i:Nat) (s:Shared) (Q:Zc) (E:Zc),tn i s.heap->Q (.ref it) s->wpAny (model P w) A (pyIter (.ref it)) Q E s
abbrev TI:=St->Hp->(It->Hp->Prop)->Prop
def PIE(X:Cx)(J3:Zd)(σ:St)(tg:Expr)(R:It->Hp->Prop)(itv:Value)(s2:Shared):Prop :=
 ∃(it:Addr) (fp:Ze) (tn:Nat->Heap->Prop) (J:It) (H':Hp),itv=.ref it/\Inv X J3 σ H' s2/\pf X.prog X.w X.K tg J fp it tn/\tn 0 s2.heap/\(∀b∈fp,jU X J3 H' b)/\R J H'
def PI(X:Cx)(tg iter:Expr)(wi:TI):Prop :=
 ∀(J3:Zd) (s:Shared) (σ:St) (H:Hp) (R:It->Hp->Prop),Inv X J3 σ H s->wi σ H R ->
  wpAny (model X.prog X.w) X.A (eval iter X.env) (fun v s1=>wpAny (model X.prog X.w) X.A (pyIter v) (PIE X J3 σ tg R) X.xe s1) X.xe s
theorem tN{M:Model}{A:Around}{E:Zc}{s:Shared}{tg:Expr}{it:Addr}{u:Value}{o:Obj}{n:String}{vs:Array Value}{Q:Unit->Shared->Prop}(ho:s.heap.get? it=some o)(hc:o.cls=.type n)(hd:o.data=.fields vs)
    (hn:["enumerate","zip","dict_itemiterator","dict_reverseitemiterator","odict_iterator","itertools.zip_longest","itertools.pairwise"].contains n=false) (hQ:Q () s):wpAny M A (vM tg (.ref it) u) Q E s:=by
  unfold vM;cases tg<;>first
    |exact aW hQ
    | (cases u<;>first
        |exact aW hQ
        | (refine am (wpAny_load ho ?_)
           rw[hc,hd];show wpAny M A (if(["enumerate","zip","dict_itemiterator","dict_reverseitemiterator","odict_iterator","itertools.zip_longest","itertools.pairwise"].contains n && vs[0]?==some (rawInt _))=true then _ else _) Q E s
           rw[if_neg (by intro h;rw[hn,Bool.false_and]at h;cases h)];exact aW hQ))
def BH(K:Za)(a:Addr):It :=
 ⟨fun i H=>∃xs x,aA K H a xs/\xs[i]?=some x,fun i H x H'=>H'=H/\∀xs,aA K H a xs->xs[i]?=some x,fun i H=>∃xs,aA K H a xs/\xs.length<=i⟩
def CP(K:Za)(a:Addr):It :=
 ⟨fun i H=>∃xs x,bN K H a xs/\xs[i]?=some x,fun i H x H'=>H'=H/\∀xs,bN K H a xs->xs[i]?=some x,fun i H=>∃xs,bN K H a xs/\xs.length<=i⟩
def CH(lo:Int)(n:Nat):It:=⟨fun i _=>i<n,fun i H x H'=>H'=H/\x=.int (lo+i),fun i _=>n<=i⟩
theorem pD{P:bj}{w:World}{K:Za}{tg:Expr}(a it:Addr):pf P w K tg (BH K a) [it] it (fun i h=>h.IsListIter it a i) where
 mem:=by simp
 obj:=fun i h st b hb=>by
  have e:b=it:=by simpa using hb
  subst e;obtain⟨o,e,c,d⟩:=st;exact⟨o,e,fun v z=>by rw[d]at z;cases z⟩
 keep:=fun i h h' st k=>st.at fun o e=>k it (by simp) o e
 item:=by
  intro X hP hw hK hc i J3 s σ H E I hf st hg;subst hP hw hK;obtain⟨xs,x,hq,hx⟩:=hg;obtain⟨its,rv,p,hz⟩:=I.list hq;obtain⟨u,hu,ru⟩:=rv.get hx;obtain⟨f0,f1,f2,f3,f4,f5⟩:=hf it (by simp);refine wpAny_pyNext_list_item st p.isList (x:=u) (by simpa using hu) fun h' st' sb=>?_;have I1:Inv X J3 σ H { s with heap:=h' }:=I.turned (t':=s.toks) (fun b o hb e=>(sb.2 b hb).trans e) f0 f1 f3 f4 f5;obtain⟨o,e,c,d⟩:=id st';exact⟨u,rfl,tN (s:={ s with heap:=h' }) e c d (by decide) ⟨x,H,I1,ru,⟨rfl,fun ys hy=>by rw[I.list_inj hy hq];exact hx⟩,st',fun b hb=>(hf b hb).1⟩⟩
 done:=by
  intro X hP hw hK hc i J3 s σ H E I hf st hg;subst hP hw hK;obtain⟨xs,hq,hx⟩:=hg;obtain⟨its,rv,p,hz⟩:=I.list hq;obtain⟨f0,f1,f2,f3,f4,f5⟩:=hf it (by simp);have hl:=rv.length;exact wpAny_pyNext_list_end (I.ok.hd hc) st p.isList (by simp;omega) fun h' eb=>⟨rfl,I.turned (t':=s.toks) (fun b o hb e=>eb b o hb e) f0 f1 f3 f4 f5⟩
 self:=fun _ _ _ _ _ st h=>wpAny_pyIter_listiter st h
theorem nG{P:bj}{w:World}{K:Za}{tg:Expr}(a it:Addr):pf P w K tg (CP K a) [it] it (fun i h=>h.IsTupleIter it a i) where
 mem:=by simp
 obj:=fun i h st b hb=>by
  have e:b=it:=by simpa using hb
  subst e;obtain⟨o,e,c,d⟩:=st;exact⟨o,e,fun v z=>by rw[d]at z;cases z⟩
 keep:=fun i h h' st k=>st.at fun o e=>k it (by simp) o e
 item:=by
  intro X hP hw hK hc i J3 s σ H E I hf st hg;subst hP hw hK;obtain⟨xs,x,hq,hx⟩:=hg;obtain⟨its,rv,p,hz⟩:=I.tuple hq;obtain⟨u,hu,ru⟩:=rv.get hx;obtain⟨f0,f1,f2,f3,f4,f5⟩:=hf it (by simp);refine wpAny_pyNext_tuple_item st (show s.heap.IsTuple a its.toArray from p) (x:=u) (by simpa using hu) fun h' st' sb=>?_;have I1:Inv X J3 σ H { s with heap:=h' }:=I.turned (t':=s.toks) (fun b o hb e=>(sb.2 b hb).trans e) f0 f1 f3 f4 f5;obtain⟨o,e,c,d⟩:=id st';exact⟨u,rfl,tN (s:={ s with heap:=h' }) e c d (by decide) ⟨x,H,I1,ru,⟨rfl,fun ys hy=>by rw[I.tuple_inj hy hq];exact hx⟩,st',fun b hb=>(hf b hb).1⟩⟩
 done:=by
  intro X hP hw hK hc i J3 s σ H E I hf st hg;subst hP hw hK;obtain⟨xs,hq,hx⟩:=hg;obtain⟨its,rv,p,hz⟩:=I.tuple hq;obtain⟨f0,f1,f2,f3,f4,f5⟩:=hf it (by simp);have hl:=rv.length;exact wpAny_pyNext_tuple_end (I.ok.hd hc) st (show s.heap.IsTuple a its.toArray from p) (by simp;omega) fun h' eb=>⟨rfl,I.turned (t':=s.toks) (fun b o hb e=>eb b o hb e) f0 f1 f3 f4 f5⟩
 self:=fun _ _ _ _ _ st h=>wpAny_pyIter_tupleiter st h
theorem ui{P:bj}{w:World}{K:Za}{tg:Expr}(it:Addr)(lo:Int)(n:Nat):pf P w K tg (CH lo n) [it] it (fun i h=>IsRangeIter h it (lo+(i:Nat) * 1) ((n:Int)-(i:Nat)) 1) where
 mem:=by simp
 obj:=fun i h st b hb=>by
  have e:b=it:=by simpa using hb
  subst e;exact⟨_,st,fun v z=>by
   have z':Data.fields _=Data.cell v:=z;cases z'⟩
 keep:=fun i h h' st k=>k it (by simp) _ st
 item:=by
  intro X hP hw hK hc i J3 s σ H E I hf st hg;subst hP hw hK;obtain⟨f0,f1,f2,f3,f4,f5⟩:=hf it (by simp);have W:=Walks.range (prog:=X.prog) (w:=X.w) (I.ok.hd hc) it lo 1 n;refine W.item i s _ _ hg st fun v h' tk hv st' kk=>?_;obtain⟨t,rfl⟩:=hv;have I1:Inv X J3 σ H { s with heap:=h',toks:=tk }:=I.turned (fun b o hb e=>kk b o (by simpa using hb) e) f0 f1 f3 f4 f5;refine⟨_,rfl,tN (s:={ s with heap:=h',toks:=tk }) (n:="range_iterator") st' rfl rfl (by decide) ⟨.int (lo+i),H,I1,⟨t,?_⟩,⟨rfl,rfl⟩,st',fun b hb=>(hf b hb).1⟩⟩;rw[Int.mul_one]
 done:=by
  intro X hP hw hK hc i J3 s σ H E I hf st hg;subst hP hw hK;obtain⟨f0,f1,f2,f3,f4,f5⟩:=hf it (by simp);exact wpAny_pyNext_range_end (I.ok.hd hc) st (by have:n<=i:=hg;omega) fun h' eb=>⟨rfl,I.turned (t':=s.toks) (fun b o hb e=>eb b o hb e) f0 f1 f3 f4 f5⟩
 self:=fun _ _ _ _ _ st h=>wpAny_pyIter_rangeiter st h
end L2
namespace L2
open PySem PySem.Spec PyProof.Rows
section
variable{X:Cx}{tg:Expr}
def cU(K:Za)(tl:TE):TI:=fun σ H R=>tl σ H fun x H1=>∃a,x=.ref a/\(∃xs,aA K H1 a xs)/\R (BH K a) H1
def Ci(K:Za)(tl:TE):TI:=fun σ H R=>tl σ H fun x H1=>∃a,x=.ref a/\(∃xs,bN K H1 a xs)/\R (CP K a) H1
theorem bA{l:Expr}{tl:TE}(hl:PE X l tl):PI X tg l (cU X.K tl):=by
 intro J3 s σ H R I h;refine bV (hl J3 s σ H _ I h) fun v s1 ⟨x,H1,I1,r1,q1⟩=>?_;obtain⟨a,e,⟨xs,hq⟩,q⟩:=q1;subst e;cases r1;obtain⟨its,rv,p,hz⟩:=I1.list hq;refine vL p.isList ?_;refine⟨s1.heap.objs.size,[s1.heap.objs.size],_,_,H1,rfl,I1.kept (t':=s1.toks) fun b o e=>aQ _ e,pD a _,⟨_,cz _ rfl,rfl,rfl⟩,fun b hb=>?_,q⟩;have e:b=s1.heap.objs.size:=by simpa using hb
 subst e;exact I1.fpOk (aD _) (I1.hok.fresh (aD _))
theorem B3{l:Expr}{tl:TE}(hl:PE X l tl):PI X tg l (Ci X.K tl):=by
 intro J3 s σ H R I h;refine bV (hl J3 s σ H _ I h) fun v s1 ⟨x,H1,I1,r1,q1⟩=>?_;obtain⟨a,e,⟨xs,hq⟩,q⟩:=q1;subst e;cases r1;obtain⟨its,rv,p,hz⟩:=I1.tuple hq;refine vK (show s1.heap.IsTuple a its.toArray from p) ?_;refine⟨s1.heap.objs.size,[s1.heap.objs.size],_,_,H1,rfl,I1.kept (t':=s1.toks) fun b o e=>aQ _ e,nG a _,⟨_,cz _ rfl,rfl,rfl⟩,fun b hb=>?_,q⟩;have e:b=s1.heap.objs.size:=by simpa using hb
 subst e;exact I1.fpOk (aD _) (I1.hok.fresh (aD _))
theorem yU{J3:Zd}{σ:St}{H:Hp}{s:Shared}{R:It->Hp->Prop}{E:Zc}{lo hi:Int}{t u v:Tok}{tk:Nat}(I:Inv X J3 σ H s)(h1:-(2 ^ 62)<=lo)(h2:lo<2 ^ 62)(h3:-(2 ^ 62)<=hi)(h4:hi<2 ^ 62)
  (q:R (CH lo (hi-lo).toNat) H):wpAny (model X.prog X.w) X.A (pyIter (.ref s.heap.objs.size)) (PIE X J3 σ tg R) E { s with heap:=s.heap.push { cls:=.type "range",data:=.fields #[.int lo t,.int hi u,.int 1 v] },toks:=tk }:=by
 refine wpAny_pyIter_range (IsRange.new ..) (small_one h1 h2 h3 h4) ?_;have I1:Inv X J3 σ H { s with heap:=s.heap.push { cls:=.type "range",data:=.fields #[.int lo t,.int hi u,.int 1 v] },toks:=tk }:=I.kept fun b o e=>aQ _ e;refine⟨(s.heap.push { cls:=.type "range",data:=.fields #[.int lo t,.int hi u,.int 1 v] }).objs.size,[(s.heap.push { cls:=.type "range",data:=.fields #[.int lo t,.int hi u,.int 1 v] }).objs.size],_,_,H,rfl,
  I1.kept (t':=tk) fun b o e=>aQ _ e,ui _ lo (hi-lo).toNat,?_,fun b hb=>?_,q⟩
 ·have e1:lo+((0:Nat):Int) * 1=lo:=by simp
  have e2:(((hi-lo).toNat:Nat):Int)-((0:Nat):Int)=cD.Range.rangeSize lo hi 1:=by rw[rangeSize_one];split<;>omega
  show IsRangeIter _ _ (lo+((0:Nat):Int) * 1) ((((hi-lo).toNat:Nat):Int)-((0:Nat):Int)) 1;rw[e1,e2];exact cz _ rfl
 ·have e:b=(s.heap.push { cls:=.type "range",data:=.fields #[.int lo t,.int hi u,.int 1 v] }).objs.size:=by simpa using hb
  subst e;exact I1.fpOk (aD _) (I1.hok.fresh (aD _))
def pX(ta:TA):TI:=fun σ H R=>ta σ H fun vs H1=>∃j:Int,vs=[.int j]/\-(2 ^ 62)<=j/\j<2 ^ 62/\R (CH 0 j.toNat) H1
theorem gD{a:Expr}{ta:TA}{p pos:Pos}(hg:Gl X "range")(hm:X.mg "range"=none)(ha:PA X [a] ta)(hs:aG [a] X.env=[(false,eval a X.env)]:=by rfl):PI X tg (.Call (.Name "range" p) [a] [] pos) (pX ta):=by
 intro J3 s σ H R I h;refine Call_ (lB I hg hm boot_range (vJ (bV (ha pos J3 s σ H _ I h) fun us s1 ⟨vs,H1,I1,r1,q1⟩=>?_) hs rfl));obtain⟨j,e,q1,q2,q⟩:=q1;subst e;cases r1 with
 |cons r rr =>
  cases rr;obtain⟨t,rfl⟩:=r;exact call_range_1 (yU I1 (by omega) (by omega) q1 q2 (by simpa using q))
def fP(wi:TI)(g:TG)(tb:TS):TS:=fun D σ H=>wi σ H fun J H1=>∃W:Nat->Nat->St->Hp->Prop,(∃m,W 0 m σ H1)/\∀i m σ H,W i m σ H ->
 (J.stop i H/\D.nx σ H)∨(J.go i H/\∃N:St->Hp->Prop,(∀σ' H',N σ' H'->∃m',m'<m/\W (i+1) m' σ' H')/\∀x H',J.yld i H x H'->g x σ H' fun σ2 H2=>tb { D with nx:=N,ct:=N,bk:=D.nx } σ2 H2)
def nX(fp:Ze)(h:Heap):List (Addr×Obj):=fp.filterMap fun b=>(h.get? b).map fun o=>(b,o)
theorem g7{fp:Ze}{h:Heap}{b:Addr}{o:Obj}(hb:b∈fp)(e:h.get? b=some o):(b,o)∈nX fp h:=List.mem_filterMap.mpr ⟨b,hb,by rw[e];rfl⟩
theorem xF{fp:Ze}{h:Heap}{p:Addr×Obj}(hp:p∈nX fp h):p.1∈fp/\h.get? p.1=some p.2:=by
 obtain⟨b,hb,e⟩:=List.mem_filterMap.mp hp;cases q:h.get? b with
 |none=>rw[q]at e;cases e
 |some o =>
  rw[q]at e;have e':(b,o)=p:=c7 e;subst e';exact⟨hb,q⟩
theorem Inv.pinned{J3:Zd}{σ:St}{H:Hp}{s:Shared}{fp:Ze}(I:Inv X J3 σ H s)(hf:∀b∈fp,jU X J3 H b)(ho:∀b∈fp,∃o,s.heap.get? b=some o/\∀v,o.data≠.cell v):Inv X (J3++nX fp s.heap) σ H s :=
 I.pins_of fun p hp=>(bO.mp hp).elim (fun z=>I.pin p (fb _ z)) fun z=>by
  obtain⟨hb,e⟩:=xF z;obtain⟨f0,f1,f2,_⟩:=hf p.1 hb;obtain⟨o,e',d⟩:=ho p.1 hb;rw[e]at e';cases e';exact⟨e,f0,f1,f2,d⟩
theorem Inv.unpinned{J3 pl:Zd}{σ:St}{H:Hp}{s:Shared}(I:Inv X (J3++pl) σ H s):Inv X J3 σ H s:=I.pins_of fun p hp=>I.pin p (fb _ (fx _ hp))
theorem cv{iter:Expr}{body:List Stmt}{wi:TI}{g:TG}{tb:TS}{pos:Pos}(hp:PassesOwn (model X.prog X.w) X.A X.env X.xe)(hc:X.calm=true)(hi:PI X tg iter wi)(hg:PG X tg g)(hb:t5 X body tb)
  (hs:∀x,sI iter X.env x=pure x:=by intro _;rfl):PS X (.For tg iter body [] pos) (fP wi g tb):=by
 intro J3 s σ H D I h;refine wpAny_For (bV (hi J3 s σ H _ I h) fun v s1 h1=>bV h1 fun itv s2 h2=>?_) hs;obtain⟨it,fp,tn,J,H2,e,I2,T,st2,f2,W,⟨m0,w0⟩,turn⟩:=h2;subst e;have stat:∀{H':Hp},(∀b∈fp,H' b=none)->∀b∈fp,jU X J3 H' b:=fun hn b hb=>⟨hn b hb,(f2 b hb).2⟩;refine codeAny_forLoop_any (fun n s'=>∃i σ' H',Inv X J3 σ' H' s'/\tn i s'.heap/\(∀b∈fp,H' b=none)/\W i n σ' H') ?_ m0 ⟨0,σ,H2,I2,st2,fun b hb=>(f2 b hb).1,w0⟩;rintro n s3 ⟨i,σ3,H3,I3,st3,fr3,w3⟩;rcases turn i n σ3 H3 w3 with⟨stop,qn⟩|⟨go,N,hN,step⟩
 ·refine mV hp (bV (T.done X rfl rfl rfl hc i J3 s3 σ3 H3 X.xe I3 (stat fr3) st3 stop) fun r s4 ⟨hr,I4⟩=>?_);subst hr;exact pr ⟨σ3,H3,I4,qn⟩
 ·refine mV hp (bV (T.item X rfl rfl rfl hc i J3 s3 σ3 H3 X.xe I3 (stat fr3) st3 go) fun r s4 ⟨u,hr,h4⟩=>?_);subst hr;refine mV hp (bV h4 fun _ s5 ⟨x,H5,I5,r5,y5,st5,fr5⟩=>?_);have I5':=I5.pinned (stat fr5) (T.obj _ _ st5);refine mV hp (bV (hg _ s5 σ3 H5 x u _ I5' r5 (step x H5 y5)) fun _ s6 ⟨σ6,H6,I6,q6⟩=>?_);refine mV hp (bV (hb _ s6 σ6 H6 _ I6 q6) fun f s7 q7=>?_);have again:∀{σ7:St}{H7:Hp},Inv X (J3++nX fp s5.heap) σ7 H7 s7->N σ7 H7->∃m,m<n/\∃i σ' H',Inv X J3 σ' H' s7/\tn i s7.heap/\(∀b∈fp,H' b=none)/\W i m σ' H':=fun{σ7 H7} I7 n7=>by
   obtain⟨m',hm,w7⟩:=hN σ7 H7 n7;refine⟨m',hm,i+1,σ7,H7,I7.unpinned,T.keep _ _ _ st5 fun b hb o e=>(I7.pin (b,o) (fb _ (fb _ (g7 hb e)))).1,fun b hb=>?_,w7⟩;obtain⟨o,e,d⟩:=T.obj _ _ st5 b hb;exact(I7.pin (b,o) (fb _ (fb _ (g7 hb e)))).2.1
  cases f with
  |next=>obtain⟨σ7,H7,I7,n7⟩:=q7;exact again I7 n7
  |cont=>obtain⟨σ7,H7,I7,n7⟩:=q7;exact again I7 n7
  |brk=>obtain⟨σ7,H7,I7,q7⟩:=q7;exact⟨σ7,H7,I7.unpinned,q7⟩
  |ret v=>obtain⟨x7,σ7,H7,I7,r7,q7⟩:=q7;exact⟨x7,σ7,H7,I7.unpinned,r7,q7⟩
end
theorem fH{K:Za}{a:Addr}{xs:List V}{g:TG}{tb:TS}{D:fK}{σ:St}{H:Hp}(Pv:Nat->St->Hp->Prop)(h0:Pv 0 σ H)(hl:∀i σ H,i<=xs.length->Pv i σ H->aA K H a xs)
  (hs:∀i x σ H,xs[i]?=some x->Pv i σ H->g x σ H fun σ2 H2=>tb { D with nx:=Pv (i+1),ct:=Pv (i+1),bk:=D.nx } σ2 H2) (hd:∀σ H,Pv xs.length σ H->D.nx σ H) :
  ∃W:Nat->Nat->St->Hp->Prop,(∃m,W 0 m σ H)/\∀i m σ H,W i m σ H ->
   ((BH K a).stop i H/\D.nx σ H)∨((BH K a).go i H/\∃N:St->Hp->Prop,(∀σ' H',N σ' H'->∃m',m'<m/\W (i+1) m' σ' H')/\∀x H',(BH K a).yld i H x H'->g x σ H' fun σ2 H2=>tb { D with nx:=N,ct:=N,bk:=D.nx } σ2 H2):=by
 refine⟨fun i m σ H=>m=xs.length-i/\i<=xs.length/\Pv i σ H,⟨xs.length,by simp,cy _,h0⟩,?_⟩;rintro i m σ H ⟨rfl,hi,p⟩;have q:=hl i σ H hi p;by_cases hlt:i<xs.length
 ·refine .inr ⟨⟨xs,xs[i],q,by simp[hlt]⟩,Pv (i+1),fun σ' H' p'=>⟨xs.length-(i+1),by omega,rfl,hlt,p'⟩,fun x H' y=>?_⟩;obtain⟨e,y⟩:=y;subst e;exact hs i x σ _ (y xs q) p
 ·have e:i=xs.length:=by omega
  subst e;exact .inl ⟨⟨xs,q,aD _⟩,hd σ H p⟩
theorem AX{K:Za}{a:Addr}{xs:List V}{g:TG}{tb:TS}{D:fK}{σ:St}{H:Hp}(Pv:Nat->St->Hp->Prop)(h0:Pv 0 σ H)(hl:∀i σ H,i<=xs.length->Pv i σ H->bN K H a xs)
  (hs:∀i x σ H,xs[i]?=some x->Pv i σ H->g x σ H fun σ2 H2=>tb { D with nx:=Pv (i+1),ct:=Pv (i+1),bk:=D.nx } σ2 H2) (hd:∀σ H,Pv xs.length σ H->D.nx σ H) :
  ∃W:Nat->Nat->St->Hp->Prop,(∃m,W 0 m σ H)/\∀i m σ H,W i m σ H ->
   ((CP K a).stop i H/\D.nx σ H)∨((CP K a).go i H/\∃N:St->Hp->Prop,(∀σ' H',N σ' H'->∃m',m'<m/\W (i+1) m' σ' H')/\∀x H',(CP K a).yld i H x H'->g x σ H' fun σ2 H2=>tb { D with nx:=N,ct:=N,bk:=D.nx } σ2 H2):=by
 refine⟨fun i m σ H=>m=xs.length-i/\i<=xs.length/\Pv i σ H,⟨xs.length,by simp,cy _,h0⟩,?_⟩;rintro i m σ H ⟨rfl,hi,p⟩;have q:=hl i σ H hi p;by_cases hlt:i<xs.length
 ·refine .inr ⟨⟨xs,xs[i],q,by simp[hlt]⟩,Pv (i+1),fun σ' H' p'=>⟨xs.length-(i+1),by omega,rfl,hlt,p'⟩,fun x H' y=>?_⟩;obtain⟨e,y⟩:=y;subst e;exact hs i x σ _ (y xs q) p
 ·have e:i=xs.length:=by omega
  subst e;exact .inl ⟨⟨xs,q,aD _⟩,hd σ H p⟩
theorem lE{lo:Int}{n:Nat}{g:TG}{tb:TS}{D:fK}{σ:St}{H:Hp}(Pv:Nat->St->Hp->Prop)(h0:Pv 0 σ H)
  (hs:∀i σ H,i<n->Pv i σ H->g (.int (lo+i)) σ H fun σ2 H2=>tb { D with nx:=Pv (i+1),ct:=Pv (i+1),bk:=D.nx } σ2 H2) (hd:∀σ H,Pv n σ H->D.nx σ H) :
  ∃W:Nat->Nat->St->Hp->Prop,(∃m,W 0 m σ H)/\∀i m σ H,W i m σ H ->
   ((CH lo n).stop i H/\D.nx σ H)∨((CH lo n).go i H/\∃N:St->Hp->Prop,(∀σ' H',N σ' H'->∃m',m'<m/\W (i+1) m' σ' H')/\∀x H',(CH lo n).yld i H x H'->g x σ H' fun σ2 H2=>tb { D with nx:=N,ct:=N,bk:=D.nx } σ2 H2):=by
 refine⟨fun i m σ H=>m=n-i/\i<=n/\Pv i σ H,⟨n,by simp,cy _,h0⟩,?_⟩;rintro i m σ H ⟨rfl,hi,p⟩;by_cases hlt:i<n
 ·refine .inr ⟨hlt,Pv (i+1),fun σ' H' p'=>⟨n-(i+1),by omega,rfl,hlt,p'⟩,fun x H' y=>?_⟩;obtain⟨e,y⟩:=y;subst e y;exact hs i σ _ hlt p
 ·have e:i=n:=by omega
  subst e;exact .inl ⟨aD _,hd σ H p⟩
end L2
namespace L2
open PySem PySem.Spec PyProof.Rows
abbrev R2:=V->V->Hp->VK->Prop
def kF(X:Cx)(f:Value->Value->Sem Value)(r:R2):Prop :=
 ∀(J3:Zd) (s:Shared) (σ:St) (H:Hp) (x y:V) (v u:Value) (Q:VK),Inv X J3 σ H s->RelV x v->RelV y u->r x y H Q ->
  wpAny (model X.prog X.w) X.A (f v u) (EP X J3 σ Q) X.xe s
def UnR(X:Cx)(f:Value->Sem Value)(r:V->Hp->VK->Prop):Prop :=
 ∀(J3:Zd) (s:Shared) (σ:St) (H:Hp) (x:V) (v:Value) (Q:VK),Inv X J3 σ H s->RelV x v->r x H Q ->
  wpAny (model X.prog X.w) X.A (f v) (EP X J3 σ Q) X.xe s
def eP(X:Cx)(f:Value)(r:List V->Hp->VK->Prop):Prop :=
 ∀(J3:Zd) (s:Shared) (σ:St) (H:Hp) (xs:List V) (us:Zf) (Q:VK),Inv X J3 σ H s->aK xs us->r xs H Q ->
  wpAny (model X.prog X.w) X.A (call f us) (EP X J3 σ Q) X.xe s
def aL(r:R2)(ta tb:TE):TE:=fun σ H Q=>ta σ H fun x H1=>tb σ H1 fun y H2=>r x y H2 Q
def CU(r:V->Hp->VK->Prop)(ta:TE):TE:=fun σ H Q=>ta σ H fun x H1=>r x H1 Q
def rI(C:Int->Int->Prop)(g:Int->Int->V):R2:=fun x y H Q=>∃i j,x=.int i/\y=.int j/\C i j/\Q (g i j) H
def yi(g:Int->Int->V):R2:=fun x y H Q=>∃i j,x=.int i/\y=.int j/\Q (g i j) H
def rU(g:Int->V):V->Hp->VK->Prop:=fun x H Q=>∃i,x=.int i/\Q (g i) H
section
variable{X:Cx}{a b c:Expr}{ta tb tc:TE}{pos:Pos}
theorem Cz(ha:PE X a ta)(hb:PE X b tb){J3:Zd}{s:Shared}{σ:St}{H:Hp}{R:V->V->Hp->Prop}(I:Inv X J3 σ H s)
  (h:ta σ H fun x H1=>tb σ H1 fun y H2=>R x y H2) {Q:Zc}{f:Value->Value->Sem Value}
  (hf:∀v u s2 x y H2,Inv X J3 σ H2 s2->RelV x v->RelV y u->R x y H2->wpAny (model X.prog X.w) X.A (f v u) Q X.xe s2) :
  wpAny (model X.prog X.w) X.A (eval a X.env) (fun v s₁=>wpAny (model X.prog X.w) X.A (eval b X.env) (fun u s₂=>wpAny (model X.prog X.w) X.A (f v u) Q X.xe s₂) X.xe s₁) X.xe s:=by
 refine bV (ha J3 s σ H _ I h) fun v s1 ⟨x,H1,I1,r1,q1⟩=>?_;refine bV (hb J3 s1 σ H1 _ I1 q1) fun u s2 ⟨y,H2,I2,r2,q2⟩=>?_;exact hf v u s2 x y H2 I2 r1 r2 q2
theorem ay{op:Operator}{r:R2}(ho:kF X (lV op) r)(ha:PE X a ta)(hb:PE X b tb):PE X (.BinOp a op b pos) (aL r ta tb):=by
 intro J3 s σ H Q I h;exact wpAny_BinOp (Cz ha hb I h fun v u s2 x y H2 I2 rx ry q=>ho J3 s2 σ H2 x y v u Q I2 rx ry q)
theorem v9{op:UnaryOp}{r:V->Hp->VK->Prop}(ho:UnR X (unaryOp op) r)(ha:PE X a ta):PE X (.UnaryOp op a pos) (CU r ta):=by
 intro J3 s σ H Q I h;exact UnaryOp_ (bV (ha J3 s σ H _ I h) fun v s1 ⟨x,H1,I1,r1,q1⟩=>ho J3 s1 σ H1 x v Q I1 r1 q1)
theorem DO{f:Value->Value->Sem Value}{C:Int->Int->Prop}{g:Int->Int->Int}
  (rule:∀(i j:Int) (t u:Tok) (s:Shared) (Q:Zc) (E:Zc),C i j->Q (.int (g i j) s.toks) { s with toks:=s.toks+1 }->wpAny (model X.prog X.w) X.A (f (.int i t) (.int j u)) Q E s) :
  kF X f (rI C fun i j=>.int (g i j)):=by
 intro J3 s σ H x y v u Q I rx ry h;obtain⟨i,j,rfl,rfl,hc,q⟩:=h;obtain⟨t,rfl⟩:=rx;obtain⟨t',rfl⟩:=ry;exact rule i j t t' s _ _ hc ⟨.int (g i j),H,I.tok _,⟨_,rfl⟩,q⟩
theorem opI0{f:Value->Value->Sem Value}{g:Int->Int->Int}
  (rule:∀(i j:Int) (t u:Tok) (s:Shared) (Q:Zc) (E:Zc),Q (.int (g i j) s.toks) { s with toks:=s.toks+1 }->wpAny (model X.prog X.w) X.A (f (.int i t) (.int j u)) Q E s) :
  kF X f (yi fun i j=>.int (g i j)):=by
 intro J3 s σ H x y v u Q I rx ry h;obtain⟨i,j,rfl,rfl,q⟩:=h;obtain⟨t,rfl⟩:=rx;obtain⟨t',rfl⟩:=ry;exact rule i j t t' s _ _ ⟨.int (g i j),H,I.tok _,⟨_,rfl⟩,q⟩
theorem AO{f:Value->Value->Sem Value}{g:Int->Int->Bool}
  (rule:∀(i j:Int) (t u:Tok) (s:Shared) (Q:Zc) (E:Zc),Q (.bool (g i j)) s->wpAny (model X.prog X.w) X.A (f (.int i t) (.int j u)) Q E s) :
  kF X f (yi fun i j=>.bl (g i j)):=by
 intro J3 s σ H x y v u Q I rx ry h;obtain⟨i,j,rfl,rfl,q⟩:=h;obtain⟨t,rfl⟩:=rx;obtain⟨t',rfl⟩:=ry;exact rule i j t t' s _ _ ⟨.bl (g i j),H,I,rfl,q⟩
def DH(i j:Int):Prop:=0<j/\j<1073741824
def DG(i j:Int):Prop:=0<=j/\j<=1000000/\i.natAbs<2 ^ 64
def z8(i j:Int):Prop:=(-(2 ^ 64)<i/\i<2 ^ 64)∨(-(2 ^ 64)<j/\j<2 ^ 64)
theorem z8.ok{i j:Int}(h:z8 i j):IntMulOk i j:=by
 rcases h with⟨h1,h2⟩|⟨h1,h2⟩
 ·exact .of_left (intBits_le_64 h1 h2)
 ·exact .of_right (intBits_le_64 h1 h2)
theorem cK:kF X (lV .Add) (yi fun i j=>.int (i+j)):=opI0 fun _ _ _ _ _ _ _ q=>add_int q
theorem fG:kF X (lV .Mult) (rI z8 fun i j=>.int (i * j)):=DO fun _ _ _ _ _ _ _ hc q=>mul_int q hc.ok
theorem we:kF X (lV .FloorDiv) (rI DH fun i j=>.int (i / j)):=DO fun i j _ _ _ _ _ hc q=>by
 have h1:(0:Int)<j:=hc.1;have h2:j<1073741824:=hc.2;exact floordiv_int (by omega) (by rw[Int.fdiv_eq_ediv_of_nonneg i (by omega)];exact q) (.inl (PyProof.noPylong_small (by omega)))
theorem eh:kF X (lV .Mod) (rI (fun _ j=>0<j) fun i j=>.int (i % j)):=DO fun i j _ _ _ _ _ hc q=>by
 have h1:(0:Int)<j:=hc;exact mod_int' (by omega) (by rw[Int.fmod_eq_emod_of_nonneg i (by omega)];exact q)
theorem y9:kF X (lV .Pow) (rI DG fun i j=>.int (i ^ j.toNat)):=DO fun _ _ _ _ _ _ _ hc q=>pow_int_small hc.1 hc.2.1 hc.2.2 q
theorem unI{f:Value->Sem Value}{g:Int->Int}
  (rule:∀(i:Int) (t:Tok) (s:Shared) (Q:Zc) (E:Zc),Q (.int (g i) s.toks) { s with toks:=s.toks+1 }->wpAny (model X.prog X.w) X.A (f (.int i t)) Q E s) :
  UnR X f (rU fun i=>.int (g i)):=by
 intro J3 s σ H x v Q I rx h;obtain⟨i,rfl,q⟩:=h;obtain⟨t,rfl⟩:=rx;exact rule i t s _ _ ⟨.int (g i),H,I.tok _,⟨_,rfl⟩,q⟩
theorem qI:UnR X (unaryOp .USub) (rU fun i=>.int (-i)):=unI fun _ _ _ _ _ q=>neg_int q
end
def C2:V->V->Bool
 |.non,.non=>true | .non,.int _=>true | .int _,.non=>true | .non,.bl _=>true | .bl _,.non=>true | .non,.str _=>true | .str _,.non=>true
 |.int _,.int _=>true | .bl _,.bl _=>true | .str _,.str _=>true | .byt _,.byt _=>true
 |.int _,.str _=>true | .str _,.int _=>true | .bl _,.str _=>true | .str _,.bl _=>true
 |_,_=>false
def z9:R2:=fun x y H Q=>C2 x y=true/\Q (.bl (decide (x=y))) H
def CK:R2:=fun x y H Q=>C2 x y=true/\Q (.bl (!decide (x=y))) H
theorem wH{i j:Int}:decide (V.int i=V.int j)=(i==j):=by
 rw[lU];simp
theorem zM{i j:Bool}:decide (V.bl i=V.bl j)=(i==j):=by
 rw[lU];simp
theorem wF{i j:Str}:decide (V.str i=V.str j)=(i==j):=by
 rw[lU];simp
theorem wI{i j:Array UInt8}:decide (V.byt i=V.byt j)=(i.toList==j.toList):=by
 rw[lU];cases i;cases j;simp
section
variable{X:Cx}{a b c:Expr}{ta tb tc:TE}{pos:Pos}
theorem bb{J3:Zd}{σ:St}{H:Hp}{s:Shared}{Q:VK}{k k':Bool}(I:Inv X J3 σ H s)(q:Q (.bl k) H)(e:k=k'):EP X J3 σ Q (.bool k') s:=by
 subst e;exact⟨.bl k,H,I,rfl,q⟩
theorem ki:kF X (da .Eq) z9:=by
 intro J3 s σ H x y v u Q I rx ry h;obtain⟨hs,q⟩:=h;cases x with
 |non =>
  cases rx;cases y with
  |non=>cases ry;exact PySem.EqNone.eq_none_none (bb I q (by simp))
  |bl j=>cases ry;exact PySem.EqNone.eq_none_bool (bb I q (by simp))
  |int j=>obtain⟨t',rfl⟩:=ry;exact PySem.EqNone.eq_none_int (bb I q (by simp))
  |str j=>obtain⟨t',rfl⟩:=ry;exact PySem.EqNone.eq_none_str (bb I q (by simp))
  |_=>exact absurd (show false=true from hs) gw
 |bl i =>
  cases rx;cases y with
  |non=>cases ry;exact PySem.EqNone.eq_bool_none (bb I q (by simp))
  |bl j=>cases ry;exact eq_bool (bb I q zM)
  |str j=>obtain⟨t',rfl⟩:=ry;exact PySem.EqMixed.eq_bool_str (bb I q (by simp))
  |_=>exact absurd (show false=true from hs) gw
 |int i =>
  obtain⟨t,rfl⟩:=rx;cases y with
  |non=>cases ry;exact PySem.EqNone.eq_int_none (bb I q (by simp))
  |int j=>obtain⟨t',rfl⟩:=ry;exact eq_int (bb I q wH)
  |str j=>obtain⟨t',rfl⟩:=ry;exact PySem.EqMixed.eq_int_str (bb I q (by simp))
  |_=>exact absurd (show false=true from hs) gw
 |str i =>
  obtain⟨t,rfl⟩:=rx;cases y with
  |non=>cases ry;exact PySem.EqNone.eq_str_none (bb I q (by simp))
  |bl j=>cases ry;exact PySem.EqMixed.eq_str_bool (bb I q (by simp))
  |int j=>obtain⟨t',rfl⟩:=ry;exact PySem.EqMixed.eq_str_int (bb I q (by simp))
  |str j=>obtain⟨t',rfl⟩:=ry;exact eq_str (bb I q wF)
  |_=>exact absurd (show false=true from hs) gw
 |byt i =>
  obtain⟨t,rfl⟩:=rx;cases y with
  |byt j=>obtain⟨t',rfl⟩:=ry;exact PySem.W.eq_bytes (bb I q wI)
  |_=>exact absurd (show false=true from hs) gw
 |_=>cases y<;>exact absurd (show false=true from hs) gw
theorem y_:kF X (da .NotEq) CK:=by
 intro J3 s σ H x y v u Q I rx ry h;obtain⟨hs,q⟩:=h;cases x with
 |non =>
  cases rx;cases y with
  |non=>cases ry;exact PySem.EqNone.ne_none_none (bb I q (by simp))
  |bl j=>cases ry;exact PySem.EqNone.ne_none_bool (bb I q (by simp))
  |int j=>obtain⟨t',rfl⟩:=ry;exact PySem.EqNone.ne_none_int (bb I q (by simp))
  |str j=>obtain⟨t',rfl⟩:=ry;exact PySem.EqNone.ne_none_str (bb I q (by simp))
  |_=>exact absurd (show false=true from hs) gw
 |bl i =>
  cases rx;cases y with
  |non=>cases ry;exact PySem.EqNone.ne_bool_none (bb I q (by simp))
  |bl j=>cases ry;exact ne_bool (bb I q (congrArg not zM))
  |str j=>obtain⟨t',rfl⟩:=ry;exact PySem.EqMixed.ne_bool_str (bb I q (by simp))
  |_=>exact absurd (show false=true from hs) gw
 |int i =>
  obtain⟨t,rfl⟩:=rx;cases y with
  |non=>cases ry;exact PySem.EqNone.ne_int_none (bb I q (by simp))
  |int j=>obtain⟨t',rfl⟩:=ry;exact ne_int (bb I q (congrArg not wH))
  |str j=>obtain⟨t',rfl⟩:=ry;exact PySem.EqMixed.ne_int_str (bb I q (by simp))
  |_=>exact absurd (show false=true from hs) gw
 |str i =>
  obtain⟨t,rfl⟩:=rx;cases y with
  |non=>cases ry;exact PySem.EqNone.ne_str_none (bb I q (by simp))
  |bl j=>cases ry;exact PySem.EqMixed.ne_str_bool (bb I q (by simp))
  |int j=>obtain⟨t',rfl⟩:=ry;exact PySem.EqMixed.ne_str_int (bb I q (by simp))
  |str j=>obtain⟨t',rfl⟩:=ry;exact ne_str (bb I q (congrArg not wF))
  |_=>exact absurd (show false=true from hs) gw
 |byt i =>
  obtain⟨t,rfl⟩:=rx;cases y with
  |byt j=>obtain⟨t',rfl⟩:=ry;exact PySem.W.ne_bytes (bb I q (congrArg not wI))
  |_=>exact absurd (show false=true from hs) gw
 |_=>cases y<;>exact absurd (show false=true from hs) gw
theorem wd:kF X (da .Lt) (yi fun i j=>.bl (decide (i<j))):=AO fun _ _ _ _ _ _ _ q=>lt_int q
theorem C8:kF X (da .LtE) (yi fun i j=>.bl (decide (i<=j))):=AO fun _ _ _ _ _ _ _ q=>le_int q
theorem zb:kF X (da .Gt) (yi fun i j=>.bl (decide (j<i))):=AO fun _ _ _ _ _ _ _ q=>gt_int q
theorem C9:kF X (da .GtE) (yi fun i j=>.bl (decide (j<=i))):=AO fun _ _ _ _ _ _ _ q=>ge_int q
theorem xE:kF X (da .In) (fun x y H Q=>∃i j,x=.str i/\y=.str j/\Q (.bl (!(cD.Str.occurrences j i 0 j.length 1).isEmpty)) H):=by
 intro J3 s σ H x y v u Q I rx ry h;obtain⟨i,j,rfl,rfl,q⟩:=h;obtain⟨t,rfl⟩:=rx;obtain⟨t',rfl⟩:=ry;exact in_str (bb I q rfl)
theorem zg(b:Expr){op:CmpOp}(h:op≠.In:=by decide)(h2:op≠.NotIn:=by decide):hW op b=false:=by
 have e1:(op==CmpOp.In)=false:=by cases op<;>first|rfl|exact absurd rfl h
 have e2:(op==CmpOp.NotIn)=false:=by cases op<;>first|rfl|exact absurd rfl h2
 cases b<;>simp[hW,e1,e2]
theorem wb{op:CmpOp}{r:R2}(ho:kF X (da op) r)(ha:PE X a ta)(hb:PE X b tb)(hm:hW op b=false):PE X (.Compare a [op] [b] pos) (aL r ta tb):=by
 intro J3 s σ H Q I h;exact wpAny_Compare1 (Cz ha hb I h fun v u s2 x y H2 I2 rx ry q=>ho J3 s2 σ H2 x y v u Q I2 rx ry q) hm
def cT(t:TE):TT:=fun σ H Q=>t σ H fun x H'=>∃k,x=.bl k/\Q k H'
theorem v7{op:CmpOp}{r:R2}(ho:kF X (da op) r)(ha:PE X a ta)(hb:PE X b tb)(hm:hW op b=false):PT X (.Compare a [op] [b] pos) (cT (aL r ta tb)):=by
 intro J3 s σ H Q I h;refine wpAny_isTrue_Compare1 (bV (ha J3 s σ H _ I h) fun v s1 ⟨x,H1,I1,r1,q1⟩=>bV (hb J3 s1 σ H1 _ I1 q1) fun u s2 ⟨y,H2,I2,r2,q2⟩ =>
  bV (ho J3 s2 σ H2 x y v u _ I2 r1 r2 q2) fun c s3 ⟨z,H3,I3,r3,k,e,q3⟩=>?_) hm
 subst e;cases r3;exact ni ⟨H3,I3,q3⟩
theorem lz:(aj:Nat)<2 ^ 63:=by rw[sizeLine_eq];decide
theorem bw:kF X (lV .Add) (fun x y H Q=>∃i j,x=.str i/\y=.str j/\i.length+j.length<=aj/\Q (.str (i++j)) H):=by
 intro J3 s σ H x y v u Q I rx ry h;obtain⟨i,j,rfl,rfl,hz,q⟩:=h;obtain⟨t,rfl⟩:=rx;obtain⟨t',rfl⟩:=ry;exact add_str (fun t' tk=>⟨.str (i++j),H,I.tok _,⟨_,rfl⟩,q⟩) hz
theorem vals1{x:V}{us:Zf}(r:aK [x] us):∃u,us=[u]/\RelV x u:=by
 cases r with
 |cons r1 r2=>cases r2;exact⟨_,rfl,r1⟩
theorem vals2{x y:V}{us:Zf}(r:aK [x,y] us):∃u w',us=[u,w']/\RelV x u/\RelV y w':=by
 cases r with
 |cons r1 r2 =>
  cases r2 with
  |cons r3 r4=>cases r4;exact⟨_,_,rfl,r1,r3⟩
end
end L2
namespace L2
open PySem PySem.Spec PyProof.Rows
structure vq(h:Heap)(x dx C:Addr)(mA:Str->Option Value):Prop where
 obj:h.get? x=some (l5 C dx)
 ns:h.Ns1 dx mA
 ne:dx≠x
theorem pU{h:Heap}{dx:Addr}{mA:Str->Option Value}(n:h.Ns1 dx mA):∃od,h.get? dx=some od/\∀name,vI name od=some (mA name):=by
 obtain⟨o,es,ep,ho,hd,hk,_,hm⟩:=n;refine⟨o,ho,fun name=>?_⟩;have e:=hm name;unfold nsFind findBy at e;rw[<-Array.find?_toList]at e;unfold vI;rw[hd];dsimp only;split
 ·rename_i y q;rw[q]at e;exact congrArg some e
 ·rename_i q;rw[q]at e;have a:es.toList.any (·.refKey)=false:=by
   rw[List.any_eq_false];intro y hy;obtain⟨z,t,hkey⟩:=hk y (Array.mem_toList_iff.mp hy);simp[DictEntry.refKey,hkey]
  have a':¬es.toList.any (·.refKey)=true:=by rw[a];exact gw
  rw[if_neg a'];exact congrArg some e
theorem vq.look{h:Heap}{x dx C:Addr}{mA:Str->Option Value}(I:vq h x dx C mA):∃od,PySem.W.InstAt h x (l5 C dx) C (some od)/\∀name,vI name od=some (mA name) :=
 let⟨od,ho,hl⟩:=pU I.ns
 ⟨od,⟨I.obj,rfl,rfl,ho⟩,hl⟩
section
variable{prog:bj}{w:World}{A:Around}{E:Zc}{s:Shared}{K:Za}{x dx C f:Addr}{mA:Str->Option Value}{name:Str}{v:Value}
theorem AS{expr:Bool}{Q:Zc}(X:K.In s.heap)(I:vq s.heap x dx C mA)(hg:sH K C name=true)(hh:vH K C=true)
  (ha:bx K (.ref C) name=some none) (hv:mA name=some v) (hv':PySem.W.handedIn v=true) (h:Q v { s with toks:=s.toks+1 }) :
  wpAny (model prog w) A (sG (.ref x) name expr) Q E s:=by
 obtain⟨od,J,hl⟩:=I.look;exact PySem.W.get_value X J (PySem.W.plainGet_of hg).1 (PySem.W.findObj_own hh ha rfl (by rw[hl,hv])) hv' h
theorem zz{pl:Sem Bool}{Q:Value×List Value->Shared->Prop}(X:K.In s.heap)(I:vq s.heap x dx C mA)(hg:sH K C name=true)
  (hf:bx K (.ref C) name=some (some (.ref f))) (ht:sF K (.ref f)=true) (hv:mA name=none) (h:Q (.ref f,[.ref x]) s) :
  wpAny (model prog w) A (sE (.ref x) name pl) Q E s:=by
 obtain⟨od,J,hl⟩:=I.look;exact PySem.W.method_fn X J (PySem.W.plainGet_of hg).1 (PySem.W.plainGet_of hg).2 hf (beq_iff_eq.mp ht) (by show(vI name od).map (·.isSome)=some false;rw[hl,hv];rfl) h
theorem Aq{ns:Zb}{Q:Unit->Shared->Prop}(X:K.In s.heap)(I:vq s.heap x dx C mA)
  (hs:bx K (.ref C) "__setattr__"=some (some (.builtin "object.__setattr__"))) (hp:PySem.W.plainOver K C=true) (ht:PySem.W.takerIn K C name=some none) (hh:vH K C=true)
  (hw:PySem.Within mA ns) (hsz:ns.length<=aj)
  (h:∀h',vq h' x dx C (fun y=>if y=name then some v else mA y)->gy dx s.heap h'->Q () { s with heap:=h',toks:=s.toks+2 }) :
  wpAny (model prog w) A (setAttr (.ref x) name v) Q E s:=by
 obtain⟨od,J,hl⟩:=I.look;refine PySem.W.set_plain X J hs (PySem.W.osa_open (s:={ s with toks:=s.toks+1 }) (r:=none) X J hp ht fun b=>?_);obtain⟨cd,hc,hd'⟩:=PySem.W.any_some hh;have hx:s.heap.get? x=some ⟨.ref C,some dx,.plain,#[]⟩:=I.obj;refine am (aW (am (am (wpAny_loadPart hx (am (PySem.W.Looks.here (s:={ s with toks:=s.toks+1 }) (PySem.W.looks_clsIn X hc) ?_))))));rw[hd'];refine aW (a:=some dx) (am (aW (am ?_)));refine wpAny_nsSet1 (s:={ s with toks:=s.toks+1 }) I.ns fun h' hn2 hs2=>?_;obtain⟨oD,esD,epD,hoD,hdD,hcD⟩:=hn2.count (PySem.Within.cons name v hw);refine am (wpAny_lookBehind hoD (by rw[hdD];exact pastItsLine_dict (bF hcD (by rw[c6];omega))) ?_);exact aW (h _ ⟨(hs2.2 _ (cO I.ne)).trans I.obj,hn2,I.ne⟩ hs2)
theorem zj{R:Result->Shared->Prop}{vs:Zf}{kw:List (Str×Value)}(X:K.In s.heap)(hm:sD K C=true)
  (hi:bx K (.ref C) "__init__"=some (some (.ref f))) (hf:PySem.W.typeIn K (.ref f)=some (.type "function"))
  (h:zzl76 (model prog w) (A.under (.builtin "type.__call__" ⟨.ref C::vs,kw⟩)) (.call (.ref f) ⟨.ref (s.heap.objs.size+1)::vs,kw⟩) (PySem.W.InitBack (s.heap.objs.size+1) R)
   { s with heap:=(s.heap.push jY).push (l5 C s.heap.objs.size) }) :
  zzl76 (model prog w) A (.call (.ref C) ⟨vs,kw⟩) R s:=by
 obtain⟨hh,g,d,t,os⟩:=s;exact PySem.W.make_core (PySem.W.makes_of X hm) (PySem.W.looks_findIn X hi) (fun self=>PySem.W.bind_fn X self hf) (.inl rfl) h
end
def cp(f:Str)(v:V):List (Str×V)->List (Str×V)
 |[]=>[(f,v)]
 | (g,x)::r=>if g=f then(g,v)::r else(g,x)::cp f v r
theorem dC(f g:Str)(v:V):∀fs:List (Str×V),(cp f v fs).lookup g=if g=f then some v else fs.lookup g
 |[]=>by
  show ii g [(f,v)]=_;by_cases h:g=f
  ·have hb:(g==f)=true:=beq_iff_eq.mpr h;simp only[ii,hb,if_pos h]
  ·have hb:(g==f)=false:=beq_eq_false_iff_ne.mpr h;simp only[ii,hb,if_neg h]
 | (k,x)::r=>by
  have ih:=dC f g v r;rw[show cp f v ((k,x)::r)=(if k=f then(k,v)::r else(k,x)::cp f v r)from rfl]
  by_cases hk:k=f
  ·rw[if_pos hk];by_cases h:g=k
   ·have hb:(g==k)=true:=beq_iff_eq.mpr h;simp only[ii,hb,if_pos (h.trans hk)]
   ·have hb:(g==k)=false:=beq_eq_false_iff_ne.mpr h;simp only[ii,hb,if_neg (fun e:g=f=>h (e.trans hk.symm))]
  ·rw[if_neg hk];by_cases h:g=k
   ·have hb:(g==k)=true:=beq_iff_eq.mpr h;simp only[ii,hb,if_neg (fun e:g=f=>hk (h.symm.trans e))]
   ·have hb:(g==k)=false:=beq_eq_false_iff_ne.mpr h;simp only[ii,hb];exact ih
theorem lC(f:Str)(v:V):∀fs:List (Str×V),f∈(cp f v fs).map (·.1)/\∀g,g∈fs.map (·.1)->g∈(cp f v fs).map (·.1)
 |[]=>⟨by simp[cp],fun g h=>by simp at h⟩
 | (k,x)::r=>by
  obtain⟨i1,i2⟩:=lC f v r;rw[show cp f v ((k,x)::r)=(if k=f then(k,v)::r else(k,x)::cp f v r)from rfl]
  by_cases hk:k=f
  ·rw[if_pos hk];subst hk;exact⟨by simp,fun g h=>by simpa using h⟩
  ·rw[if_neg hk];refine⟨?_,fun g h=>?_⟩
   ·rw[aS];exact cg _ i1
   ·rw[aS]at h ⊢;rcases bg.mp h with e|e
    ·exact bg.mpr (.inl e)
    ·exact cg _ (i2 g e)
theorem md(f:Str)(v:V):∀fs:List (Str×V),(cp f v fs).length<=fs.length+1
 |[]=>by simp[cp]
 | (k,x)::r=>by
  have ih:=md f v r;rw[show cp f v ((k,x)::r)=(if k=f then(k,v)::r else(k,x)::cp f v r)from rfl]
  by_cases hk:k=f
  ·rw[if_pos hk,c6,c6];omega
  ·rw[if_neg hk,c6,c6];omega
theorem gK.some_of{v:V}{o:Option Value}(r:gK (some v) o):∃u,o=some u/\RelV v u:=by
 cases o with
 |none=>exact(show False from r).elim
 |some u=>exact⟨u,rfl,r⟩
theorem gK.none_of{o:Option Value}(r:gK none o):o=none:=by
 cases o with
 |none=>rfl
 |some u=>exact(show False from r).elim
theorem pY{v:V}{u:Value}(r:RelV v u):PySem.W.handedIn u=true:=by
 cases v with
 |non=>cases(show u=Value.none from r);rfl
 |bl b=>cases(show u=Value.bool b from r);rfl
 |int i=>obtain⟨t,e⟩:=(show ∃t,u=Value.int i t from r);cases e;rfl
 |str x=>obtain⟨t,e⟩:=(show ∃t,u=Value.str x t from r);cases e;rfl
 |byt b=>obtain⟨t,e⟩:=(show ∃t,u=Value.bytes b t from r);cases e;rfl
 |flt b=>obtain⟨t,e⟩:=(show ∃t,u=Value.float b t from r);cases e;rfl
 |ref a=>cases(show u=Value.ref a from r);rfl
 |ty n=>cases(show u=Value.type n from r);rfl
section
variable{P:bj}{w:World}{H H':Hp}{h h':Heap}{a C dx:Addr}{fs fs':List (Str×V)}
theorem mQ{K:Za}(hok:iL P w K H h)(e:H a=some (.ins C dx fs)):∃mA,vq h a dx C mA/\(∀f,gK (fs.lookup f) (mA f))/\PySem.Within mA (fs.map (·.1))/\fs.length<=1000/\H dx=some (.own a):=by
 obtain⟨d,z,ne,ob,mA,n,r,q⟩:=(show bS P w K H h a (.ins C dx fs)from hok a _ e);exact⟨mA,⟨ob,n,ne⟩,r,q,z,d⟩
end
structure yk(K:Za)(C:Addr):Prop where
 pg:sH K C Str.empty=true
 hd:vH K C=true
 po:PySem.W.plainOver K C=true
 sa:bx K (.ref C) "__setattr__"=some (some (.builtin "object.__setattr__"))
theorem yk.get{K:Za}{C:Addr}(c:yk K C)(f:Str):sH K C f=true:=c.pg
def cN(K:Za)(C:Addr)(f:Str):Prop:=bx K (.ref C) f=some none
theorem cN.taker{K:Za}{C:Addr}{f:Str}(n:cN K C f):PySem.W.takerIn K C f=some none:=by
 unfold PySem.W.takerIn;rw[show bx K (.ref C) f=some none from n]
 rfl
structure CG(K:Za)(C:Addr)(m:Str)(f:Addr):Prop where
 at_:bx K (.ref C) m=some (some (.ref f))
 fn:sF K (.ref f)=true
 kp:e_ K (.ref f)=true
section
variable{X:Cx}{J3:Zd}{σ:St}{H:Hp}{s:Shared}{a C dx:Addr}{fs:List (Str×V)}{f:Str}{v:V}{A:Around}{E:Zc}
theorem vd{b:Bool}{Q:Zc}(I:Inv X J3 σ H s)(e:H a=some (.ins C dx fs))(c:yk X.K C)(n:cN X.K C f)(l:fs.lookup f=some v)
  (h:∀u s',Inv X J3 σ H s'->RelV v u->Q u s'):wpAny (model X.prog X.w) A (sG (.ref a) f b) Q E s:=by
 obtain⟨mA,O,r,_,_,_⟩:=mQ I.hok e;obtain⟨u,hu,ru⟩:=gK.some_of (v:=v) (o:=mA f) (by rw[<-l];exact r f);exact AS I.kIn O (c.get f) c.hd n hu (pY ru) (h u _ (I.tok _) ru)
theorem vc{m:Str}{g:Addr}{pl:Sem Bool}{Q:Value×List Value->Shared->Prop}(I:Inv X J3 σ H s)(e:H a=some (.ins C dx fs))(c:yk X.K C)(k:CG X.K C m g)(l:fs.lookup m=none)
  (h:Q (.ref g,[.ref a]) s):wpAny (model X.prog X.w) A (sE (.ref a) m pl) Q E s:=by
 obtain⟨mA,O,r,_,_,_⟩:=mQ I.hok e;have hn:mA m=none:=gK.none_of (by rw[<-l];exact r m);exact zz I.kIn O (c.get m) k.at_ k.fn hn h
theorem uH{y:V}{u:Value}{Q:Unit->Shared->Prop}(I:Inv X J3 σ H s)(e:H a=some (.ins C dx fs))(c:yk X.K C)(n:cN X.K C f)(hl:fs.length<1000)(ry:RelV y u)
  (h:∀s',Inv X J3 σ (upd H a (.ins C dx (cp f y fs))) s'->Q () s'):wpAny (model X.prog X.w) A (setAttr (.ref a) f u) Q E s:=by
 obtain⟨mA,O,r,wi,_,ho⟩:=mQ I.hok e;have hz:(fs.map (·.1)).length<=aj:=by rw[ap,sizeLine_eq];omega
 refine Aq I.kIn O c.sa c.po n.taker c.hd wi hz fun h' O' sb=>h _ ?_;have hd:∃o,h'.get? dx=some o:=let⟨o,_,_,e',_⟩:=O'.ns;⟨o,e'⟩;refine I.write (x:=a) (e:=dx) (by rw[e];exact dY) (.inr ho) (fun b q hb z=>(sb.2 b hb).trans z) hd ?_;refine⟨by rw[ai O.ne];exact ho,?_,O.ne,O'.obj,_,O'.ns,fun g=>?_,fun g hg=>?_⟩
 ·have:=md f y fs;omega
 ·show gK ((cp f y fs).lookup g) (if g=f then some u else mA g)
  rw[dC];by_cases q:g=f
  ·rw[if_pos q,if_pos q];exact ry
  ·rw[if_neg q,if_neg q];exact r g
 ·by_cases q:g=f
  ·rw[q];exact(lC f y fs).1
  ·refine(lC f y fs).2 g (wi g fun z=>hg ?_);show(if g=f then some u else mA g)=none
   rw[if_neg q];exact z
theorem Inv.made(I:Inv X J3 σ H s):Inv X J3 σ (upd (upd H s.heap.objs.size (.own (s.heap.objs.size+1))) (s.heap.objs.size+1) (.ins C s.heap.objs.size []))
  { s with heap:=(s.heap.push jY).push (l5 C s.heap.objs.size) }:=by
 have e1:(s.heap.push jY).get? s.heap.objs.size=some jY:=cz s.heap rfl;have e2:((s.heap.push jY).push (l5 C s.heap.objs.size)).get? (s.heap.objs.size+1)=some (l5 C s.heap.objs.size):=by
  have:=cz (s.heap.push jY) (o:=l5 C s.heap.objs.size) rfl;rwa[lT]at this
 have e3:(s.heap.push jY).Ns s.heap.objs.size (fun _=>none):=⟨jY,#[],_,e1,rfl,(fun e he=>absurd he (by simp)),fun _=>rfl⟩;have I1:=I.laid (a:=s.heap.objs.size) (o:=.own (s.heap.objs.size+1)) (h':=s.heap.push jY) (t':=s.toks) (fun b u q=>aQ _ q) (aD _) ⟨_,e1⟩;refine I1.laid (a:=s.heap.objs.size+1) (o:=.ins C s.heap.objs.size []) (t':=s.toks) (fun b u q=>aQ _ q) (Nat.le_of_eq (lT _ _)) ?_;have ne:s.heap.objs.size≠s.heap.objs.size+1:=bP (Nat.lt_succ_self _);refine⟨by rw[ai ne,aa],cy _,ne,e2,fun _=>none,(Heap.Ns1.of_empty e3).at fun o q=>aQ _ q,fun _=>dY,fun y hy=>absurd rfl hy⟩
theorem wN{prog:bj}{w:World}{env:Env}{e:Expr}{f:Str}{pos:Pos}{s:Shared}{Q:Zc}(hb:pq e f env (eval e env)=eval e env)
  (h:wpAny (model prog w) A (eval e env) (fun o s₁=>wpAny (model prog w) A (sG o f true) Q E s₁) E s):wpAny (model prog w) A (eval (.Attribute e f pos) env) Q E s :=
 Attribute_any_ h (by rw[arm_eval_Attribute,hb])
end
def sT(K:Za)(ta:TE)(f:Str):TE:=fun σ H Q=>ta σ H fun x H1=>∃a C dx fs v,x=.ref a/\H1 a=some (.ins C dx fs)/\yk K C/\cN K C f/\fs.lookup f=some v/\Q v H1
def q_(K:Za)(ta tv:TE)(f:Str):TS:=fun D σ H=>tv σ H fun y H1=>ta σ H1 fun x H2=>∃a C dx fs,x=.ref a/\H2 a=some (.ins C dx fs)/\yk K C/\cN K C f/\fs.length<1000 /\
 D.nx σ (upd H2 a (.ins C dx (cp f y fs)))
section
variable{X:Cx}{o e value:Expr}{f:Str}{pos pos' J8:Pos}{ta tv:TE}
theorem jI(he:PE X e ta)(hb:pq e f X.env (eval e X.env)=eval e X.env):PE X (.Attribute e f pos) (sT X.K ta f):=by
 intro J3 s σ H Q I h;refine wN hb (bV (he J3 s σ H _ I h) fun u s1 ⟨x,H1,I1,rx,a,C,dx,fs,v,ex,ea,c,n,l,q⟩=>?_);subst ex;obtain rfl:u=Value.ref a:=rx;exact vd I1 ea c n l fun u' s2 I2 ru=>⟨v,H1,I2,ru,q⟩
theorem iB(ha:PE X o ta)(hv:PE X value tv)(hs:mW value (some (.Attribute o f pos')) pos.line X.env=pure false):PS X (.Assign [.Attribute o f pos'] value pos) (q_ X.K ta tv f):=by
 intro J3 s σ H D I h;refine plainObj_wpAny_Assign_Attribute (bV (hv J3 s σ H _ I h) fun u s1 ⟨y,H1,I1,ry,q⟩=>bV (ha J3 s1 σ H1 _ I1 q) fun ov s2 ⟨x,H2,I2,rx,a,C,dx,fs,ex,ea,c,n,l,q2⟩=>?_) hs;subst ex;obtain rfl:ov=Value.ref a:=rx;exact uH I2 ea c n l ry fun s3 I3=>⟨σ,_,I3,q2⟩
end
section
variable{X:Cx}{J3:Zd}{σ:St}{H:Hp}{s:Shared}{A:Around}{E:Zc}{Q:Zc}{c:Value}{b:Bool}
inductive jP(K:Za)(H:Hp):V->Value->Prop where
 |non:jP K H .non (.type "NoneType")
 |bl (x:Bool):jP K H (.bl x) (.type "bool")
 |int (i:Int):jP K H (.int i) (.type "int")
 |str (x:Str):jP K H (.str x) (.type "str")
 |flt (x:UInt64):jP K H (.flt x) (.type "float")
 |lst {a:Addr}{xs:List V}(e:H a=some (.lst xs)):jP K H (.ref a) (.type "list")
 |frz {a:Addr}{o:Obj}{xs:List V}(e:H a=some (.frz o (.lst xs))):jP K H (.ref a) (.type "list")
 |tup {a:Addr}{xs:List V}(e:H a=some (.tup xs)):jP K H (.ref a) (.type "tuple")
 |dK {a:Addr}{kvs:List (cG×V)}(e:H a=some (.dK kvs)):jP K H (.ref a) (.type "dict")
 |dT {a:Addr}{kvs:List (TK×V)}(e:H a=some (.dT kvs)):jP K H (.ref a) (.type "dict")
 |ins {a C dx:Addr}{fs:List (Str×V)}(e:H a=some (.ins C dx fs)) (cl:yk K C) (ha:bx K (.ref C) "__class__"=some (some (.builtin "object.__class__")))
   (hn:vG K (.builtin "object.__class__") "__get__"=some (some (.builtin "getset_descriptor.__get__"))) (htk:PySem.W.takesIn K (.builtin "object.__class__")=some true)
   (hm:PySem.W.mroIn K C (.type "object")=some true):jP K H (.ref a) (.ref C)
theorem xM{x:V}{u t:Value}(I:Inv X J3 σ H s)(rx:RelV x u)(ty:jP X.K H x t)(e:sC X.K t c=some b)(h:∀tk,Q (.bool b) { s with toks:=tk }):
  wpAny (model X.prog X.w) A (call (.builtin "isinstance") [u,c]) Q E s:=by
 cases ty with
 |non=>cases(show u=Value.none from rx);exact gv PySem.W.kitx_none I.kIn dY e (fun z=>nomatch z) h
 |bl y=>cases(show u=Value.bool y from rx);exact gv PySem.W.kitx_bool I.kIn dY e (fun z=>nomatch z) h
 |int i=>obtain⟨t,q⟩:=(show ∃t,u=Value.int i t from rx);cases q;exact gv PySem.W.kitx_int I.kIn dY e (fun z=>nomatch z) h
 |str y=>obtain⟨t,q⟩:=(show ∃t,u=Value.str y t from rx);cases q;exact gv PySem.W.kitx_str I.kIn dY e (fun z=>nomatch z) h
 |flt y=>obtain⟨t,q⟩:=(show ∃t,u=Value.float y t from rx);cases q;exact gv PySem.W.kitx_float I.kIn dY e (fun z=>nomatch z) h
 |@lst a xs ea =>
  cases(show u=Value.ref a from rx);obtain⟨_,_,n,_,h1⟩:=(show bS X.prog X.w X.K H s.heap a (.lst xs)from I.hok a _ ea);exact gv PySem.W.kitx_list I.kIn ⟨_,h1,rfl⟩ e (fun z=>nomatch z) h
 |@frz a ob xs ea =>
  cases(show u=Value.ref a from rx);obtain⟨_,_,_,n,_,h1⟩:=(show bS X.prog X.w X.K H s.heap a (.frz ob (.lst xs))from I.hok a _ ea);exact gv PySem.W.kitx_list I.kIn ⟨_,h1,rfl⟩ e (fun z=>nomatch z) h
 |@tup a xs ea =>
  cases(show u=Value.ref a from rx);obtain⟨_,_,_,p⟩:=(show bS X.prog X.w X.K H s.heap a (.tup xs)from I.hok a _ ea);obtain⟨o,h1,h2,_⟩:=p;exact gv PySem.W.kitx_tuple I.kIn ⟨o,h1,h2⟩ e (fun z=>nomatch z) h
 |@dK a kvs ea =>
  cases(show u=Value.ref a from rx);obtain⟨_,_,vs,_,p⟩:=(show bS X.prog X.w X.K H s.heap a (.dK kvs)from I.hok a _ ea);obtain⟨o,es,ep,h1,h2,_⟩:=p;exact gv PySem.W.kitx_dict I.kIn ⟨o,h1,h2.1⟩ e (fun z=>nomatch z) h
 |@dT a kvs ea =>
  cases(show u=Value.ref a from rx);obtain⟨_,_,xs,_,o,es,ep,h1,h2,_⟩:=(show bS X.prog X.w X.K H s.heap a (.dT kvs)from I.hok a _ ea);exact gv PySem.W.kitx_dict I.kIn ⟨o,h1,h2.1⟩ e (fun z=>nomatch z) h
 |@ins a C dx fs ea cl ha hn htk hm =>
  cases(show u=Value.ref a from rx);obtain⟨mA,O,_⟩:=mQ I.hok ea;obtain⟨od,J,_⟩:=O.look;exact gv (PySem.W.kitx_own (cl.get _) cl.hd ha hn htk hm) I.kIn J e (fun z=>nomatch z) h
end
end L2
namespace L2
open PySem PySem.Spec PyProof.Rows
structure dw(k:Nat)(A:Around):Prop where
 hd:A.handled=none
 dp:A.depth+3 * k+5<recursionLimit
 un:A.units+16 * k+200<cLine
theorem dw.mono{j k:Nat}{A:Around}(r:dw k A)(h:j<=k):dw j A:=⟨r.hd,by have:=r.dp;omega,by have:=r.un;omega⟩
theorem dw.deeper{k:Nat}{A:Around}(r:dw (k+1) A)(env:Env):dw k (A.deeper env) :=
 ⟨r.hd,by have:=r.dp;show A.depth+1+3 * k+5<_;omega,by have:=r.un;show A.units+3+16 * k+200<_;omega⟩
theorem u4{A:Around}{C:Addr}{us:Zf}{kw:List (Str×Value)}:(A.under (.builtin "type.__call__" ⟨.ref C::us,kw⟩)).depth=A.depth+1:=by
 first|rfl|simp[Around.under,Code.weight,Code.isCreation,Code.isGuard,Code.isCaller,Code.frames,Code.isFrame,guardIds]
theorem u3{A:Around}{C:Addr}{us:Zf}{kw:List (Str×Value)}:(A.under (.builtin "type.__call__" ⟨.ref C::us,kw⟩)).units=A.units+1:=by
 first|rfl|simp[Around.under,Code.cUnits,Code.frames,Code.isFrame]
theorem dw.make{k:Nat}{A:Around}(r:dw (k+1) A)(C:Addr)(us:Zf)(kw:List (Str×Value)):dw k (A.under (.builtin "type.__call__" ⟨.ref C::us,kw⟩)) :=
 ⟨r.hd,by have:=r.dp;rw[u4];omega,by have:=r.un;rw[u3];omega⟩
theorem dw.depth{k:Nat}{A:Around}(r:dw k A):A.depth<recursionLimit:=by have:=r.dp;omega
theorem dw.units{k:Nat}{A:Around}(r:dw k A):A.units+64<cLine:=by have:=r.un;omega
def bz:TA:=fun _ H Q=>Q [] H
def au(ta:TE)(tr:TA):TA:=fun σ H Q=>ta σ H fun x H1=>tr σ H1 fun xs H2=>Q (x::xs) H2
abbrev aF(a:TE):TA:=au a bz
abbrev br(a b:TE):TA:=au a (au b bz)
abbrev i_(a b c:TE):TA:=au a (au b (au c bz))
section
variable{X:Cx}{e:Expr}{es:List Expr}{te:TE}{t:TA}{pos:Pos}
theorem gk:PA X [] bz:=fun _ _ _ _ H Q I h=>Calls.spliced_nil ⟨[],H,I,.nil,h⟩
theorem bI(ha:PE X e te)(hr:PA X es t)(hs:aG (e::es) X.env=(false,eval e X.env)::aG es X.env:=by rfl):PA X (e::es) (au te t):=by
 intro pos J3 s σ H Q I h;rw[hs];show wpAny _ _ (spliced ((false,eval e X.env)::backTo pos (aG es X.env))) _ _ s;refine Calls.spliced_cons (bV (ha J3 s σ H _ I h) fun u s1 ⟨x,H1,I1,r1,q1⟩=>?_);exact bV (hr pos J3 s1 σ H1 _ I1 q1) fun us s2 ⟨xs,H2,I2,r2,q2⟩=>⟨x::xs,H2,I2,.cons r1 r2,q2⟩
def fz(t:TA):TE:=fun σ H Q=>t σ H fun xs H1=>xs.length<=aj/\∀p,H1 p=none->Q (.ref p) (upd H1 p (.tup xs))
def eF(t:TA):TE:=fun σ H Q=>t σ H fun xs H1=>xs.length<=aj/\∀p,H1 p=none->Q (.ref p) (upd H1 p (.lst xs))
theorem cw{x1}(h:PA X es t):PE X (.Tuple es x1 pos) (fz t):=by
 intro J3 s σ H Q I hq;refine wpAny_Tuple_spliced (bV (h pos J3 s σ H _ I hq) fun us s1 ⟨xs,H1,I1,r,z,q⟩=>⟨by rw[<-r.length];exact z,?_⟩);have hf:H1 s1.heap.objs.size=none:=I1.hok.fresh (aD _);refine⟨.ref s1.heap.objs.size,upd H1 s1.heap.objs.size (.tup xs),I1.laid (t':=s1.toks) (fun b u e=>aQ _ e) (aD _) ?_,rfl,q _ hf⟩;exact⟨z,us,r,⟨_,cz _ rfl,rfl,_,rfl⟩⟩
theorem bH(h:PA X es t):PE X (.List es pos) (eF t):=by
 intro J3 s σ H Q I hq;refine wpAny_List_spliced (bV (h pos J3 s σ H _ I hq) fun us s1 ⟨xs,H1,I1,r,z,q⟩=>⟨by rw[<-r.length];exact z,?_⟩);have hf:H1 s1.heap.objs.size=none:=I1.hok.fresh (aD _);refine⟨.ref s1.heap.objs.size,upd H1 s1.heap.objs.size (.lst xs),I1.laid (t':=s1.toks) (fun b u e=>aQ _ e) (aD _) ?_,rfl,q _ hf⟩;exact⟨z,us,0,r,cz _ rfl⟩
end
abbrev Sp:=List V->Hp->VK->XK->Prop
abbrev ym:=List Env->Hp->Shared->XK->Value->Shared->Prop
structure vA(P:bj)(w:World)(K:Za)(mg:Str->Option Value)(base:Heap)(A:Around)(outer:List Env)(s:Shared)(H:Hp):Prop where
 frames:A.frames=some outer
 mod:Mod K mg base
 bs:∀b o,base.get? b=some o->s.heap.get? b=some o/\H b=none
 bsz:base.objs.size<=s.heap.objs.size
 funs:s.heap.FunFrames base outer
 frf:∀b∈pc outer,H b=none
 hok:iL P w K H s.heap
 bare:jZ s.gens
def CE(outer:List Env)(P:bj)(w:World)(K:Za)(H:Hp)(s:Shared)(Q:VK)(u:Value)(s':Shared):Prop :=
 ∃v H',s'.os=s.os/\jZ s'.gens/\Un (pc outer) [] H H' s.heap s'.heap/\iL P w K H' s'.heap/\RelV v u/\Q v H'
def CR(CX:ym)(outer:List Env)(P:bj)(w:World)(K:Za)(H:Hp)(s:Shared)(Q:VK)(E:XK)(r:Result)(s':Shared):Prop :=
 match r with
 |.ok (.ret u)=>CE outer P w K H s Q u s'
 |.ok _=>False
 |.error e=>CX outer H s E e s'
structure jg(P:bj)(w:World)(K:Za)(mg:Str->Option Value)(base:Heap)(CX:ym)(k:Nat)(f:Addr)(fd:hV)(ps:Zb)(sp:Sp):Prop where
 len:∀vs H Q E,sp vs H Q E->vs.length=ps.length
 run:∀(A:Around) (outer:List Env) (s:Shared) (H:Hp) (args:Args) (us:Zf) (vs:List V) (Q:VK) (E:XK),dw k A->vA P w K mg base A outer s H->mU s fd args (ps.zip us)->aK vs us->sp vs H Q E ->
  zzl76 (model P w) A (.call (.ref f) args) (CR CX outer P w K H s Q E) s
theorem vA.make{P:bj}{w:World}{K:Za}{mg:Str->Option Value}{base:Heap}{A:Around}{outer:List Env}{s:Shared}{H:Hp}(e:vA P w K mg base A outer s H)(C:Addr)(us:Zf)(kw:List (Str×Value)):
  vA P w K mg base (A.under (.builtin "type.__call__" ⟨.ref C::us,kw⟩)) outer s H:=⟨by first|exact e.frames|(simpa[Around.under,Code.envs,Code.isFrame,pushEnvs]using e.frames),e.mod,e.bs,e.bsz,e.funs,e.frf,e.hok,e.bare⟩
section
variable{X:Cx}{J3:Zd}{σ:St}{H:Hp}{s s':Shared}
theorem Inv.env0(I:Inv X J3 σ H s):vA X.prog X.w X.K X.mg X.base X.A X.stack s H :=
 ⟨I.ok.frames,I.ok.mod,I.bs,bF I.ok.bsz I.sz,I.stack,I.stkFree,I.hok,I.bare⟩
theorem Inv.after{Q:VK}{u:Value}(I:Inv X J3 σ H s)(h:CE X.stack X.prog X.w X.K H s Q u s'):EP X J3 σ Q u s':=by
 obtain⟨v,H',os,bare,un,hok,r,q⟩:=h;obtain⟨hh,g,d,t,os'⟩:=s';obtain rfl:os'=s.os:=os;exact⟨v,H',I.call (h':=hh) (g':=g) (d':=d) (t':=t) (ch:=[]) un hok bare (fun b z=>absurd z (by simp)),r,q⟩
end
def Bm(sp:Sp)(dvs:List V)(E:XK)(t:TA):TE:=fun σ H Q=>t σ H fun vs H1=>sp (vs++dvs) H1 Q E
def gB(C:Addr)(m:Str)(sp:Sp)(dvs:List V)(E:XK)(ta:TE)(t:TA):TE:=fun σ H Q=>ta σ H fun x H1=>∃a dx fs,x=.ref a/\H1 a=some (.ins C dx fs)/\fs.lookup m=none /\
 t σ H1 fun vs H2=>sp (x::(vs++dvs)) H2 Q E
def vY(C:Addr)(sp:Sp)(dvs:List V)(E:XK)(t:TA):TE:=fun σ H Q=>t σ H fun vs H1=>∀x dx,H1 x=none->H1 dx=none->dx≠x ->
 sp (.ref x::(vs++dvs)) (upd (upd H1 dx (.own x)) x (.ins C dx [])) (fun v H2=>v=.non/\Q (.ref x) H2) E
def Binds(K:Za)(fd:hV)(ps:Zb)(ds:Zf):Prop :=
 ∀(s:Shared) (us:Zf),K.In s.heap->(us++ds).length=ps.length->mU s fd ⟨us,[]⟩ (ps.zip (us++ds))
theorem Binds.all{K:Za}{fd:hV}{ps:Zb}(h:∀us:List Value,us.length=ps.length->bindArgs fd ⟨us,[]⟩=pure (ps.zip us)):Binds K fd ps []:=fun s us _ hl=>by
 rw[i9]at hl ⊢;exact .of_eq (h us hl)
def lI(CX:ym)(X:Cx)(E:XK):Prop:=∀(J3:Zd) (σ:St) (H:Hp) (s:Shared) (e:Value) (s':Shared),Inv X J3 σ H s->CX X.stack H s E e s'->X.xe e s'
section
variable{X:Cx}{CX:ym}{k:Nat}{f C:Addr}{fd:hV}{ps:Zb}{sp:Sp}{dvs:List V}{ds:Zf}{E:XK}{x m:Str}{p pos J5:Pos}{e o:Expr}{es:List Expr}{ta:TE}{t:TA}
theorem yM{J3:Zd}{σ:St}{H:Hp}{s:Shared}{Q:VK}{us:Zf}{vs:List V}(F:jg X.prog X.w X.K X.mg X.base CX k f fd ps sp)(hr:dw k X.A)(hb:Binds X.K fd ps ds)(hd:aK dvs ds)(hx:lI CX X E)
  (I:Inv X J3 σ H s) (r:aK vs us) (h:sp (vs++dvs) H Q E):wpAny (model X.prog X.w) X.A (call (.ref f) us) (EP X J3 σ Q) X.xe s:=by
 have r2:aK (vs++dvs) (us++ds):=r.append hd;have hl:(us++ds).length=ps.length:=by rw[<-r2.length];exact F.len _ _ _ _ h
 refine wpAny_call (vF (F.run X.A X.stack s H ⟨us,[]⟩ (us++ds) (vs++dvs) Q E hr I.env0 (hb s us I.kIn hl) r2 h) fun r s' hq=>?_);cases r with
 |error e=>exact hx J3 σ H s e s' I hq
 |ok fl =>
  cases fl with
  |ret u=>exact I.after hq
  |next=>exact fu hq
  |brk=>exact fu hq
  |cont=>exact fu hq
theorem AL(F:jg X.prog X.w X.K X.mg X.base CX k f fd ps sp)(hr:dw k X.A)(hg:Gl X x)(hm:X.mg x=some (.ref f))(hk:e_ X.K (.ref f)=true)(hb:Binds X.K fd ps ds)(hd:aK dvs ds)(hx:lI CX X E)
  (ha:PA X (e::es) t) (hdb:(x==("__debug__":Str))=false:=by decide) (he:aG (e::es) X.env=(false,eval e X.env)::aG es X.env:=by rfl) (hpl:(backTo pos (aG es X.env)).any (·.1)=false:=by rfl) :
  PE X (.Call (.Name x p) (e::es) [] pos) (Bm sp dvs E t):=by
 intro J3 s σ H Q I h;refine vE (mP I hg hm ?_ hdb);refine PySem.W.callWith_K (h₀:=X.base) I.ok.mod.kin hk (bV (ha pos J3 s σ H _ I h) fun us s1 ⟨vs,H1,I1,r,q⟩=>⟨I1.kIn,?_⟩) he hpl;exact yM F hr hb hd hx I1 r q
theorem y2{pl:Sem Bool}(he:PE X o ta)(c:yk X.K C)(hm:CG X.K C m f)(F:jg X.prog X.w X.K X.mg X.base CX k f fd ps sp)(hr:dw k X.A)(hb:Binds X.K fd ps ds)(hd:aK dvs ds)(hx:lI CX X E)
  (ht:eval (.Call (.Attribute o m J5) [] [] pos) X.env=(do
   let ov <- eval o X.env
   sJ J5.atName
   let(f,first) <- lY [ov] (sE ov m pl)
   callWith pos f first (backTo pos (aG [] X.env)) (sB pos (sA [] X.env))):=by rfl) :
  PE X (.Call (.Attribute o m J5) [] [] pos) (gB C m sp dvs E ta bz):=by
 intro J3 s σ H Q I h;refine PySem.W.methodCall_KW (pl:=pl) (bV (he J3 s σ H _ I h) fun u s1 ⟨x,H1,I1,rx,a,dx,fs,ex,ea,l,q⟩=>?_) ht;subst ex;obtain rfl:u=Value.ref a:=rx;refine vc I1 ea c hm l ?_;exact PySem.W.callWith_K0 (first:=[.ref a]) I1.kIn hm.kp (yM (us:=[.ref a]) (vs:=[.ref a]) F hr hb hd hx I1 (.cons rfl .nil) q)
structure Mk(K:Za)(C f:Addr):Prop where
 makes:sD K C=true
 init:bx K (.ref C) "__init__"=some (some (.ref f))
 fn:sF K (.ref f)=true
 kp:e_ K (.ref C)=true
theorem yL{J3:Zd}{σ:St}{H:Hp}{s:Shared}{Q:VK}{us:Zf}{vs:List V}(M:Mk X.K C f)(F:jg X.prog X.w X.K X.mg X.base CX k f fd ps sp)(hr:dw (k+1) X.A)(hb:Binds X.K fd ps ds)(hd:aK dvs ds)
  (hx:lI CX X E) (I:Inv X J3 σ H s) (r:aK vs us)
  (h:∀x dx,H x=none->H dx=none->dx≠x->sp (.ref x::(vs++dvs)) (upd (upd H dx (.own x)) x (.ins C dx [])) (fun v H2=>v=.non/\Q (.ref x) H2) E) :
  wpAny (model X.prog X.w) X.A (call (.ref C) us) (EP X J3 σ Q) X.xe s:=by
 have hq:=h (s.heap.objs.size+1) s.heap.objs.size (I.hok.fresh (Nat.le_succ _)) (I.hok.fresh (aD _)) (bP (Nat.lt_succ_self _));have I2:=Inv.made (C:=C) I;have r2:aK (V.ref (s.heap.objs.size+1)::(vs++dvs)) (Value.ref (s.heap.objs.size+1)::(us++ds)):=.cons rfl (r.append hd);have hl:(Value.ref (s.heap.objs.size+1)::us++ds).length=ps.length:=by
  have e:=r2.length;rw[F.len _ _ _ _ hq]at e;exact e.symm
 refine wpAny_call (zj (f:=f) I.kIn M.makes M.init (beq_iff_eq.mp M.fn) (vF (F.run _ X.stack _ _ ⟨Value.ref (s.heap.objs.size+1)::us,[]⟩ (Value.ref (s.heap.objs.size+1)::(us++ds)) _ _ E (hr.make C us [])
  (I2.env0.make C us []) (hb _ (Value.ref (s.heap.objs.size+1)::us) I2.kIn hl) r2 hq) fun r s' hq'=>?_))
 cases r with
 |error e=>exact hx J3 σ _ _ e s' I2 hq'
 |ok fl =>
  cases fl with
  |ret u =>
   obtain⟨v,H',I3,rv,ev,q3⟩:=I2.after hq';subst ev;exact⟨rv,⟨V.ref (s.heap.objs.size+1),H',I3,rfl,q3⟩⟩
  |next=>exact fu hq'
  |brk=>exact fu hq'
  |cont=>exact fu hq'
theorem AI(M:Mk X.K C f)(F:jg X.prog X.w X.K X.mg X.base CX k f fd ps sp)(hr:dw (k+1) X.A)(hg:Gl X x)(hm:X.mg x=some (.ref C))(hb:Binds X.K fd ps ds)(hd:aK dvs ds)(hx:lI CX X E)
  (ha:PA X (e::es) t) (hdb:(x==("__debug__":Str))=false:=by decide) (he:aG (e::es) X.env=(false,eval e X.env)::aG es X.env:=by rfl) (hpl:(backTo pos (aG es X.env)).any (·.1)=false:=by rfl) :
  PE X (.Call (.Name x p) (e::es) [] pos) (vY C sp dvs E t):=by
 intro J3 s σ H Q I h;refine vE (mP I hg hm ?_ hdb);refine PySem.W.callWith_K (h₀:=X.base) I.ok.mod.kin M.kp (bV (ha pos J3 s σ H _ I h) fun us s1 ⟨vs,H1,I1,r,q⟩=>⟨I1.kIn,?_⟩) he hpl;exact yL M F hr hb hd hx I1 r q
end
structure hC(N P:Zb)(sc:Scope):Prop where
 kind:sc.kind=.function
 co:sc.isCoroutine=false
 gen:sc.isGenerator=false
 nd:N.Nodup
 pre:N.take P.length=P
 par:∀x∈P,sc.names.lookup x=some .local∨sc.names.lookup x=some .cell
 nofree:∀y∈sc.names,y.2≠.free
theorem p6{kindOf:Str->Option gu}{x:Str}:∀{binds:List (Str×Value)}{m:Str->Option Value},(∀v,(x,v)∉binds)->bindL kindOf binds m x=m x
 |[],_,_=>rfl
 | (n,v)::r,m,h=>by
  unfold bindL;rw[p6 fun w hw=>h w (cg _ hw)];split
  ·have:x≠n:=by rintro rfl;exact h v bY
   simp[this]
  ·rfl
theorem p8{kindOf:Str->Option gu}{x:Str}:∀{binds:List (Str×Value)}{m:Str->Option Value},(∀v,(x,v)∉binds)->bindC kindOf binds m x=m x
 |[],_,_=>rfl
 | (n,v)::r,m,h=>by
  unfold bindC;rw[p8 fun w hw=>h w (cg _ hw)];split
  ·rfl
  ·have:x≠n:=by rintro rfl;exact h v bY
   simp[this]
theorem p7{kindOf:Str->Option gu}{x:Str}{v:Value}:∀{P:Zb}{vs:Zf}{i:Nat}{m:Str->Option Value},P.Nodup->P[i]?=some x->vs[i]?=some v->kindOf x=some .local ->
  bindL kindOf (P.zip vs) m x=some v
 |[],_,_,_,_,h,_,_=>by simp at h
 |_::_,[],_,_,_,_,h,_=>by simp at h
 |p::P,w::vs,0,m,nd,h1,h2,hk=>by
  simp at h1 h2;subst h1;subst h2;show bindL kindOf ((p,w)::P.zip vs) m p=_;unfold bindL;rw[p6 fun v hv=>(lS.mp nd).1 (sy hv).1,if_pos hk];simp
 |p::P,w::vs,i+1,m,nd,h1,h2,hk=>by
  show bindL kindOf ((p,w)::P.zip vs) m x=_;unfold bindL;exact p7 (i:=i) (lS.mp nd).2 (by simpa using h1) (by simpa using h2) hk
theorem p9{kindOf:Str->Option gu}{x:Str}{v:Value}:∀{P:Zb}{vs:Zf}{i:Nat}{m:Str->Option Value},P.Nodup->P[i]?=some x->vs[i]?=some v->kindOf x≠some .local ->
  bindC kindOf (P.zip vs) m x=some v
 |[],_,_,_,_,h,_,_=>by simp at h
 |_::_,[],_,_,_,_,h,_=>by simp at h
 |p::P,w::vs,0,m,nd,h1,h2,hk=>by
  simp at h1 h2;subst h1;subst h2;show bindC kindOf ((p,w)::P.zip vs) m p=_;unfold bindC;rw[p8 fun v hv=>(lS.mp nd).1 (sy hv).1,if_neg hk];simp
 |p::P,w::vs,i+1,m,nd,h1,h2,hk=>by
  show bindC kindOf ((p,w)::P.zip vs) m x=_;unfold bindC;exact p9 (i:=i) (lS.mp nd).2 (by simpa using h1) (by simpa using h2) hk
def start(N:Zb)(vs:List V):St:=vs.map some++pk (N.length-vs.length) none
def vi(CX:ym)(P:bj)(w:World)(K:Za)(mg:Str->Option Value)(base:Heap)(N:Zb)(qual:Str)(scope:Scope)(f:Addr)(cd:Value)(A:Around)(outer:List Env)(s:Shared)(H:Hp)(E:XK):Cx where
 prog:=P
 w:=w
 K:=K
 mg:=mg
 base:=base
 A:=A.deeper (envOfC qual scope s.heap.objs.size f cd)
 N:=N
 s₀:=s
 H₀:=H
 env:=envOfC qual scope s.heap.objs.size f cd
 outer:=outer
 stack:=envOfC qual scope s.heap.objs.size f cd::outer
 ex:=[]
 calm:=true
 fn:=fun _=>true
 pn:=[]
 xe:=fun e s'=>wpAny (model P w) (A.deeper (envOfC qual scope s.heap.objs.size f cd)) (leaving (envOfC qual scope s.heap.objs.size f cd) e) (fun _ s''=>CX outer H s E e s'') (fun e' s''=>CX outer H s E e' s'') s'
theorem tX{sc:Scope}{n:Nat}{x:Str}(h:sc.names.lookup x=some .cell):∃c,(cellsFrom n sc.names []).lookup x=some c:=by
 have q:=PySem.W.cellsFrom_some sc.names n [] (.inl h);exact vD.mp q
theorem xO{CX:ym}{P:bj}{w:World}{K:Za}{mg:Str->Option Value}{base:Heap}{N ps:Zb}{qual:Str}{scope:Scope}{f:Addr}{cd:Value}{A:Around}{outer:List Env}{s s1:Shared}{H:Hp}{E:XK}{us:Zf}{vs:List V}
  (S:hC N ps scope) (hd:A.handled=none) (e0:vA P w K mg base A outer s H) (hl:vs.length=ps.length) (r:aK vs us)
  (x:InCallC s s.heap.objs.size (bindL (envOfC qual scope s.heap.objs.size f cd).kindOf (ps.zip us) fun _=>none) (cellsFrom (s.heap.objs.size+1) scope.names []) (bindC (envOfC qual scope s.heap.objs.size f cd).kindOf (ps.zip us) fun _=>none) s1) :
  Inv (vi CX P w K mg base N qual scope f cd A outer s H E) [] (start N vs) H s1:=by
 have hpl:ps.length<=N.length:=by have:=congrArg List.length S.pre;rw[bf]at this;omega
 obtain⟨h1,tk,rfl,hk⟩:=x.done;have noA:∀b:Addr,b∉(vi CX P w K mg base N qual scope f cd A outer s H E).ex:=fun b z=>absurd (show b∈([]:Ze)from z) (by simp);refine⟨⟨e0.mod,S.kind,rfl,rfl,aD _,fun y z c h1 h2=>?_,fun y hy=>?_,fun y c _ h=>?_,fun _=>hd,Around.frames_deeper e0.frames,.inr ⟨rfl,rfl⟩,fun b z=>absurd z (noA b),e0.bs,e0.bsz,fun b _ _=>noA b,fun b z=>absurd z (noA b),e0.funs,e0.frf⟩,
  rfl,e0.bare,Un.kept hk,⟨_,x.toInCall.ns,fun i y v h1 h2 h3=>?_⟩,fun y c h=>⟨_,x.cell y c h⟩,e0.hok.fresh (aD _),fun y c h=>?_,fun p hp=>absurd (show p∈([]:Zd)from hp) (by simp),e0.hok.kept hk,?_⟩
 ·exact name_of_addr x.apart (nE h1) (nE h2)
 ·have hy:scope.names.lookup y=some .cell∨scope.names.lookup y=some .free:=hy;rcases hy with hy|hy
  ·exact tX hy
  ·exact absurd rfl (S.nofree _ (nE hy))
 ·exact fR (x.above y c (nE h))
 ·have hi:i<vs.length:=by
   unfold start at h2;by_cases hi:i<vs.length
   ·exact hi
   ·rw[jy (by simpa using hi)]at h2;rw[List.getElem?_replicate]at h2;split at h2<;>cases h2
  have ha:vs[i]?=some v:=by
   unfold start at h2;rw[nD (by simpa using hi),cA]at h2;cases e:vs[i]? with
   |none=>rw[e]at h2;cases h2
   |some a=>rw[e]at h2;cases h2;rfl
  obtain⟨u,hu,rv⟩:=r.get ha;have hp:ps[i]?=some y:=by
   rw[<-S.pre,List.getElem?_take_of_lt (by omega)];exact h1
  have ndP:ps.Nodup:=by rw[<-S.pre];exact S.nd.sublist (List.take_sublist _ _)
  refine⟨u,rv,?_⟩;rcases S.par y (bU hp)with k|k
  ·exact .inl ⟨k,p7 ndP hp hu k⟩
  ·obtain⟨c,e⟩:=tX (n:=s.heap.objs.size+1) k;refine .inr ⟨.inl k,c,e,?_⟩;have q:=x.cell y c e;rw[p9 ndP hp hu (by show scope.names.lookup y≠_;rw[k];decide)]at q;exact q
 ·exact e0.hok.fresh (fR (x.above y c (nE h)))
 ·unfold start;show _=N.length;rw[bd,ap,qG];omega
theorem Dl{CX:ym}{P:bj}{w:World}{K:Za}{mg:Str->Option Value}{base:Heap}{k:Nat}{f:Addr}{name qual:Str}{params:Arguments}{body:List Stmt}{scope:Scope}{dV kV doc pm cdv ct oc:Value}{an od:Option Addr}
  {osl:Array (Option Value)}{N ps:Zb}{sp:Sp}(lk:K.lookup f=some ⟨oc,od,.func (fy name qual params body scope dV kV doc pm an cdv ct),osl⟩) (hcd:jx K cdv qual=true) (S:hC N ps scope)
  (len:∀vs H Q E,sp vs H Q E->vs.length=ps.length)
  (hbody:∀(A:Around) (outer:List Env) (s:Shared) (H:Hp) (vs:List V) (Q:VK) (E:XK),dw k (A.deeper (envOfC qual scope s.heap.objs.size f cdv))->sp vs H Q E ->
   ∃t,t5 (vi CX P w K mg base N qual scope f cdv A outer s H E) body t/\t (cf Q) (start N vs) H) :
  jg P w K mg base CX (k+1) f (fy name qual params body scope dV kV doc pm an cdv ct) ps sp:=by
 refine⟨len,fun A outer s H args us vs Q E hr e0 hb r hsp=>?_⟩;have hl:=len _ _ _ _ hsp;have KX:K.In s.heap:=e0.mod.kin.keeps fun b o e=>(e0.bs b o e).1;have lim:s.heap.NoLimit:=e0.mod.nolimit.keeps fun b o e=>(e0.bs b o e).1;have hkind:∀y∈ps.zip us,scope.names.lookup y.1=some .local∨(scope.names.lookup y.1=some .cell/\((cellsFrom (s.heap.objs.size+1) scope.names []).lookup y.1).isSome=true):=fun⟨n,v⟩ hy=>by
  rcases S.par n (sy hy).1 with q|q
  ·exact .inl q
  ·exact .inr ⟨q,PySem.W.cellsFrom_some _ _ _ (.inl q)⟩
 refine codeAny_call_function hr.depth (KX _ _ lk) rfl S.co S.gen rfl (PySem.W.codeRec_of KX hcd) (hb _ _ _ _ ?_);refine wpAny_newFunctionEnv_cells S.kind hkind fun env he s1 x=>?_;subst he;refine⟨lim.keeps x.toInCall.keep,codeAny_func ?_⟩;obtain⟨t,ht,hq⟩:=hbody A outer s H vs Q E (hr.deeper _) hsp;have I:Inv (vi CX P w K mg base N qual scope f cdv A outer s H E) [] (start N vs) H s1:=xO S hr.hd e0 hl r x;refine d4 (ht [] s1 (start N vs) H _ I hq) (fun fl s' hs=>?_) fun e s' hs=>hs;have fin:∀{σ':St}{H':Hp}{v:V}{u:Value},Inv (vi CX P w K mg base N qual scope f cdv A outer s H E) [] σ' H' s'->RelV v u->Q v H'->CE outer P w K H s Q u s' :=
  fun{σ' H' v u} J rv q=>⟨v,H',J.os,J.bare,J.base,J.hok,rv,q⟩
 cases fl with
 |ret u =>
  obtain⟨v,σ',H',J,rv,q⟩:=hs;exact fin J rv q
 |next =>
  obtain⟨σ',H',J,q⟩:=hs;exact fin (v:=V.non) (u:=Value.none) J rfl q
 |brk =>
  obtain⟨_,_,_,q⟩:=hs;exact fu q
 |cont =>
  obtain⟨_,_,_,q⟩:=hs;exact fu q
end L2
namespace L2
open PySem PySem.Spec PyProof.Rows
section
variable{X:Cx}{x:Str}{p pos:Pos}{e:Expr}{es:List Expr}{t:TA}{id T:String}{r:List V->Hp->VK->Prop}
def de(r:List V->Hp->VK->Prop)(t:TA):TE:=fun σ H Q=>t σ H fun vs H1=>r vs H1 Q
theorem tz(hc:eP X (.builtin id) r)(hg:Gl X x)(hm:X.mg x=none)(hv:fS x=some (.builtin id))(ha:PA X (e::es) t)(hn:x≠"__name__":=by decide)(hdb:(x==("__debug__":Str))=false:=by decide)
  (he:aG (e::es) X.env=(false,eval e X.env)::aG es X.env:=by rfl) (hpl:(backTo pos (aG es X.env)).any (·.1)=false:=by rfl):PE X (.Call (.Name x p) (e::es) [] pos) (de r t):=by
 intro J3 s σ H Q I h;refine vE (lB I hg hm hv ?_ hn hdb);exact PyProof.Rows.callWith_builtin1 (bV (ha pos J3 s σ H _ I h) fun us s1 ⟨vs,H1,I1,r1,q1⟩=>hc J3 s1 σ H1 vs us Q I1 r1 q1) he hpl
theorem ln(hc:eP X (.type T) r)(hg:Gl X x)(hm:X.mg x=none)(hv:fS x=some (.type T))(ha:PA X (e::es) t)(hn:x≠"__name__":=by decide)(hdb:(x==("__debug__":Str))=false:=by decide)
  (he:aG (e::es) X.env=(false,eval e X.env)::aG es X.env:=by rfl) (hpl:(backTo pos (aG es X.env)).any (·.1)=false:=by rfl):PE X (.Call (.Name x p) (e::es) [] pos) (de r t):=by
 intro J3 s σ H Q I h;refine vE (lB I hg hm hv ?_ hn hdb);exact vJ (bV (ha pos J3 s σ H _ I h) fun us s1 ⟨vs,H1,I1,r1,q1⟩=>hc J3 s1 σ H1 vs us Q I1 r1 q1) he hpl
end
end L2
namespace HT
open PySem PyProof.Rows
section
variable{prog:bj}{w:World}{A:Around}{E:Zc}{s:Shared}
def sIx(n d:Nat):Option Int->Nat
 |none=>d
 |some v=>if v<0 then(v+(n:Int)).toNat else min v.toNat n
theorem sIx_none(n d:Nat):sIx n d none=d:=rfl
theorem sIx_nat(n d k:Nat):sIx n d (some (k:Int))=min k n:=by
 show(if(k:Int)<0 then((k:Int)+(n:Int)).toNat else min (k:Int).toNat n)=min k n
 rw[if_neg (by omega),kW]
theorem sIx_le(n d:Nat)(hd:d<=n)(o:Option Int):sIx n d o<=n:=by
 cases o with
 |none=>exact hd
 |some v =>
  show(if v<0 then(v+(n:Int)).toNat else min v.toNat n)<=n
  by_cases hv:v<0
  ·rw[if_pos hv];omega
  ·rw[if_neg hv];exact Nat.min_le_right _ _
theorem clip_eq(v:Int)(n d:Nat):(if v<0 then max (v+(n:Int)) 0 else min v (n:Int))=((sIx n d (some v):Nat):Int):=by
 show(if v<0 then max (v+(n:Int)) 0 else min v (n:Int))=(((if v<0 then(v+(n:Int)).toNat else min v.toNat n):Nat):Int)
 by_cases hv:v<0
 ·simp only[if_pos hv];omega
 ·simp only[if_neg hv];omega
end
end HT
namespace L2
open PySem PySem.Spec PyProof.Rows
abbrev TO:=St->Hp->(Option Int->Hp->Prop)->Prop
def PO(X:Cx)(e:Option Expr)(t:TO):Prop :=
 ∀(J3:Zd) (s:Shared) (σ:St) (H:Hp) (Q:Option Int->Hp->Prop),Inv X J3 σ H s->t σ H Q ->
  wpAny (model X.prog X.w) X.A (evalPart e X.env) (fun u s'=>∃o H',Inv X J3 σ H' s'/\IsPart u o/\Q o H') X.xe s
def dg:TO:=fun _ H Q=>Q none H
def d7(t:TE):TO:=fun σ H Q=>t σ H fun x H1=>∃i,x=.int i/\Q (some i) H1
section
variable{X:Cx}{e:Expr}{te:TE}{lo hi:Option Expr}{tl th:TO}{pos p2:Pos}
theorem dJ:PO X none dg:=by
 intro J3 s σ H Q I h;rw[evalPart_none];exact aW ⟨none,H,I,.none,h⟩
theorem b9(h:PE X e te):PO X (some e) (d7 te):=by
 intro J3 s σ H Q I hw;rw[evalPart_some];refine bV (h J3 s σ H _ I hw) fun u s1 ⟨x,H1,I1,r1,q1⟩=>?_;obtain⟨i,rfl,q⟩:=q1;obtain⟨t,rfl⟩:=r1;exact⟨some i,H1,I1,.int i t,q⟩
def SlR(X:Cx)(r:V->Option Int->Option Int->Hp->VK->Prop):Prop :=
 ∀(J3:Zd) (s:Shared) (σ:St) (H:Hp) (x:V) (v vl vu:Value) (lo hi:Option Int) (sl:Addr) (Q:VK),Inv X J3 σ H s->RelV x v->s.heap.IsSliceOf sl vl vu .none->IsPart vl lo->IsPart vu hi->r x lo hi H Q ->
  ∃T id,typeLookup (.type T) "__getitem__"=pure (some (.builtin id))/\s.TypeIs v T/\wpAny (model X.prog X.w) X.A (jw v (.ref sl)) (EP X J3 σ Q) X.xe s
def uu(r:V->Option Int->Option Int->Hp->VK->Prop)(te:TE)(tl th:TO):TE:=fun σ H Q=>te σ H fun x H1=>tl σ H1 fun l H2=>th σ H2 fun u H3=>r x l u H3 Q
theorem ca{r:V->Option Int->Option Int->Hp->VK->Prop}(hr:SlR X r)(he:PE X e te)(hl:PO X lo tl)(hu:PO X hi th):PE X (.Subscript e (.Slice lo hi none p2) pos) (uu r te tl th):=by
 intro J3 s σ H Q I h;refine Subscript_ (bV (he J3 s σ H _ I h) fun v s1 ⟨x,H1,I1,r1,q1⟩=>?_);refine wpAny_Slice (bV (hl J3 s1 σ H1 _ I1 q1) fun vl s2 ⟨l,H2,I2,pl,q2⟩=>bV (hu J3 s2 σ H2 _ I2 q2) fun vu s3 ⟨u,H3,I3,pu,q3⟩=>?_);rw[evalPart_none];refine aW ?_;have I4:Inv X J3 σ H3 { s3 with heap:=s3.heap.push { cls:=.type "slice",data:=.fields #[vl,vu,.none] } }:=I3.kept (t':=s3.toks) fun b ob q=>aQ _ q;obtain⟨T,id,hT,ht,hg⟩:=hr J3 { s3 with heap:=s3.heap.push { cls:=.type "slice",data:=.fields #[vl,vu,.none] } } σ H3 x v vl vu l u s3.heap.objs.size Q I4 r1 (Heap.IsSliceOf.new ..) pl pu q3;show wpAny (model X.prog X.w) X.A (subscriptTail e (.Slice lo hi none p2) v (.ref s3.heap.objs.size)) (EP X J3 σ Q) X.xe { s3 with heap:=s3.heap.push { cls:=.type "slice",data:=.fields #[vl,vu,.none] } };exact tail_any (ops:=[.ref s3.heap.objs.size,v]) ht hT hg (by with_unfolding_all rfl)
def dD(xs:List V)(lo hi:Option Int):List V:=(xs.drop (HT.sIx xs.length 0 lo)).take (HT.sIx xs.length xs.length hi-HT.sIx xs.length 0 lo)
theorem tV(xs:List V)(lo hi:Option Int):(dD xs lo hi).length<=xs.length:=by
 unfold dD;rw[bf,eU];omega
end
end L2
namespace L2
open PySem PySem.Spec PyProof.Rows
def z_(n:Nat)(i:Int):Option Nat:=if 0<=i then(if i<n then some i.toNat else none)else if -(n:Int)<=i then some (i+n).toNat else none
def ud{α:Type}(xs:List α)(i:Int):Option α:=(z_ xs.length i).bind fun j=>xs[j]?
theorem wt{n:Nat}{i:Int}{j:Nat}(h:z_ n i=some j):seqIndex? i n=some j/\j<n/\-(n:Int)<=i/\i<n:=by
 unfold z_ at h;by_cases h0:0<=i
 ·rw[if_pos h0]at h;by_cases h1:i<n
  ·rw[if_pos h1]at h;have e:i.toNat=j:=c7 h;exact⟨by rw[seqIndex_of h0 h1,e],by omega,by omega,h1⟩
  ·rw[if_neg h1]at h;cases h
 ·rw[if_neg h0]at h;by_cases h1:-(n:Int)<=i
  ·rw[if_pos h1]at h;have e:(i+n).toNat=j:=c7 h;exact⟨by rw[seqIndex_neg (by omega) h1,e],by omega,h1,by omega⟩
  ·rw[if_neg h1]at h;cases h
theorem r_{α:Type}{xs:List α}{i:Int}{v:α}(h:ud xs i=some v):∃j,seqIndex? i xs.length=some j/\xs[j]?=some v/\j<xs.length/\-(xs.length:Int)<=i/\i<xs.length:=by
 unfold ud at h;cases e:z_ xs.length i with
 |none=>rw[e]at h;cases h
 |some j =>
  rw[e]at h;obtain⟨h1,h2,h3,h4⟩:=wt e;exact⟨j,h1,h,h2,h3,h4⟩
theorem eE{α:Type}{xs:List α}{j:Nat}{v:α}(h:xs[j]?=some v):ud xs (j:Int)=some v:=by
 have hj:j<xs.length:=(db.mp h).1;have e:z_ xs.length (j:Int)=some j:=by
  unfold z_;rw[if_pos (by omega),if_pos (by omega)];simp
 unfold ud;rw[e];exact h
theorem tZ{α:Type}(xs:List α)(v:α):ud (xs++[v]) (-1)=some v:=by
 have hl:(xs++[v]).length=xs.length+1:=by simp
 have e:z_ (xs++[v]).length (-1)=some xs.length:=by
  unfold z_;rw[hl,if_neg (by decide),if_pos (by omega)];congr 1;omega
 unfold ud;rw[e];show(xs++[v])[xs.length]?=some v;simp
def Bd(b:Expr):Prop:=∀o i,qF b false o i=operate [o,i] (jw o i)
def Bg(X:Cx)(r:R2):Prop :=
 ∀(value slice:Expr) (J3:Zd) (s:Shared) (σ:St) (H:Hp) (x y:V) (v u:Value) (Q:VK),Inv X J3 σ H s->RelV x v->RelV y u->r x y H Q ->
  qF slice false v u=operate [v,u] (jw v u)->wpAny (model X.prog X.w) X.A (subscriptTail value slice v u) (EP X J3 σ Q) X.xe s
def MtR(X:Cx)(id:String)(r:V->List V->Hp->VK->Prop):Prop :=
 ∀(J3:Zd) (s:Shared) (σ:St) (H:Hp) (x:V) (xs:List V) (v:Value) (us:Zf) (Q:VK),Inv X J3 σ H s->RelV x v->aK xs us->r x xs H Q ->
  wpAny (model X.prog X.w) X.A (call (.builtin id) (v::us)) (EP X J3 σ Q) X.xe s
section
variable{X:Cx}{a b:Expr}{ta tb:TE}{pos:Pos}
theorem Bg.or{r r':R2}(h:Bg X r)(h':Bg X r'):Bg X (fun x y H Q=>r x y H Q∨r' x y H Q):=by
 intro value slice J3 s σ H x y v u Q I rx ry q hs;rcases q with q|q
 ·exact h value slice J3 s σ H x y v u Q I rx ry q hs
 ·exact h' value slice J3 s σ H x y v u Q I rx ry q hs
theorem v_{r:R2}(hr:Bg X r)(ha:PE X a ta)(hb:PE X b tb)(hs:Bd b):PE X (.Subscript a b pos) (aL r ta tb):=by
 intro J3 s σ H Q I h;exact Subscript_ (Cz ha hb I h fun v u s2 x y H2 I2 rx ry q=>hr a b J3 s2 σ H2 x y v u Q I2 rx ry q (hs _ _))
def cX(K:Za):R2:=fun x y H Q=>∃p xs i v,x=.ref p/\y=.int i/\aA K H p xs/\ud xs i=some v/\Q v H
def AA(K:Za):R2:=fun x y H Q=>∃p xs i v,x=.ref p/\y=.int i/\bN K H p xs/\ud xs i=some v/\Q v H
def yV:R2:=fun x y H Q=>∃z i c,x=.str z/\y=.int i/\z.length<=aj/\ud z.cps.toList i=some c/\Q (.str ⟨#[c]⟩) H
theorem wq:Bg X (cX X.K):=by
 intro value slice J3 s σ H x y v u Q I rx ry h hs;obtain⟨p,xs,i,z,rfl,rfl,hq,he,q⟩:=h;cases rx;obtain⟨t,rfl⟩:=ry;obtain⟨its,r,pl,hz⟩:=I.list hq;obtain⟨j,h1,h2,h3,h4,h5⟩:=r_ he;obtain⟨w,ew,rw'⟩:=r.get h2;have hl:=r.length;have hn:=lz;have fin:EP X J3 σ Q w s:=⟨z,H,I,rw',q⟩;by_cases h0:0<=i
 ·have hj:i.toNat=j:=by
   rw[seqIndex_of h0 h5]at h1;exact c7 h1
  exact item_listR pl.isList h0 (by omega) (by rw[hj];simpa using ew) fin hs
 ·have hj:(i+(its.toArray.size:Int)).toNat=j:=by
   rw[seqIndex_neg (by omega) h4]at h1;rw[bD,<-hl];exact c7 h1
  exact subscriptTail_builtinR (x:=w) pl.isList.typeIs slot_list_getitem.lookup
   (wpAny_getItem_list_neg (Q:=fun r s'=>r=w/\EP X J3 σ Q r s') pl.isList (by omega) (by rw[bD]<;>omega) (by omega) (by rw[hj];simpa using ew) ⟨rfl,fin⟩) hs
theorem zp:Bg X (AA X.K):=by
 intro value slice J3 s σ H x y v u Q I rx ry h hs;obtain⟨p,xs,i,z,rfl,rfl,hq,he,q⟩:=h;cases rx;obtain⟨t,rfl⟩:=ry;obtain⟨its,r,pl,hz⟩:=I.tuple hq;obtain⟨j,h1,h2,h3,h4,h5⟩:=r_ he;obtain⟨w,ew,rw'⟩:=r.get h2;have hl:=r.length;have hn:=lz;have fin:EP X J3 σ Q w s:=⟨z,H,I,rw',q⟩;exact subscriptTail_builtinR (x:=w) pl.typeIs slot_tuple_getitem.lookup
  (getItem_tuple (j:=j) (Q:=fun r s'=>r=w/\EP X J3 σ Q r s') pl (by omega) (by omega) (by rw[bD,<-hl];exact h1) (by simpa using ew) ⟨rfl,fin⟩) hs
theorem zq:Bg X yV:=by
 intro value slice J3 s σ H x y v u Q I rx ry h hs;obtain⟨z,i,c,rfl,rfl,hz,he,q⟩:=h;obtain⟨t,rfl⟩:=rx;obtain⟨t',rfl⟩:=ry;obtain⟨j,h1,h2,h3,h4,h5⟩:=r_ he;have hl:z.cps.toList.length=z.length:=by simp[Str.length]
 rw[hl]at h1 h4 h5;have hn:=lz;exact tail_any (typeIs_str s z t) slot_str_getitem.lookup (getItem_str (c:=c) (by
  have e1:decide (i < -(2 ^ 63:Int))=false:=zzr0 (by omega);have e2:decide (i ≥ 2 ^ 63)=false:=zzr0 (by omega);rw[e1,e2,Bool.or_false]) (by rw[h1];simpa using h2) ⟨.str ⟨#[c]⟩,H,I.tok _,⟨_,rfl⟩,q⟩) hs
def xC(K:Za):R2:=fun x y H Q=>cX K x y H Q∨AA K x y H Q∨yV x y H Q
theorem Cg:Bg X (xC X.K):=wq.or (zp.or zq)
theorem uZ(its:Zf)(n j:Nat)(u:Value):nC (·.setIfInBounds j u) { cls:=.type "list",data:=.seq its.toArray n }={ cls:=.type "list",data:=.seq (its.set j u).toArray n }:=by
 simp[nC]
theorem Inv.lst{J3:Zd}{σ:St}{H:Hp}{s:Shared}{p:Addr}{xs:List V}(I:Inv X J3 σ H s)(h:H p=some (.lst xs)):
  ∃(its:Zf) (n:Nat),aK xs its/\s.heap.get? p=some { cls:=.type "list",data:=.seq its.toArray n }/\xs.length<=aj:=by
 obtain⟨z,its,n,r,e⟩:=I.hok p _ h;exact⟨its,n,r,e,z⟩
theorem Inv.lstUpd{J3:Zd}{σ:St}{H:Hp}{s:Shared}{p:Addr}{xs ys:List V}{its its':Zf}{n n':Nat}{f:Obj->Obj}(I:Inv X J3 σ H s)(h:H p=some (.lst xs))
  (ho:s.heap.get? p=some { cls:=.type "list",data:=.seq its.toArray n }) (hf:f { cls:=.type "list",data:=.seq its.toArray n }={ cls:=.type "list",data:=.seq its'.toArray n' }) (r:aK ys its') (hz:ys.length<=aj) (t:Nat) :
  Inv X J3 σ (upd H p (.lst ys)) { s with heap:=s.heap.update p f,toks:=t }:=by
 have e:(s.heap.update p f).get? p=some { cls:=.type "list",data:=.seq its'.toArray n' }:=by
  rw[jv f ho (by rw[hf]<;>rfl),hf]
 refine I.write (x:=p) (e:=p) (by rw[h];trivial) (.inl rfl) (fun b u hb q=>(ju _ _ (cO hb)).trans q) ⟨_,e⟩ ?_;exact⟨hz,its',n',r,e⟩
def nU:V->V->V->Hp->(Hp->Prop)->Prop:=fun o i v H Q=>∃p xs k j,o=.ref p/\i=.int k/\H p=some (.lst xs)/\z_ xs.length k=some j/\Q (upd H p (.lst (xs.set j v)))
theorem iz:Dw X nU:=by
 intro J3 s σ H o i v ov iv u Q I ro ri rv h;obtain⟨p,xs,k,j,rfl,rfl,hp,hj,q⟩:=h;cases ro;obtain⟨t,rfl⟩:=ri;obtain⟨its,n,r,ho,hz⟩:=I.lst hp;obtain⟨h1,h2,h3,h4⟩:=wt hj;have hl:=r.length;have hn:=lz;have I':Inv X J3 σ (upd H p (.lst (xs.set j v))) { s with heap:=s.heap.update p (nC (·.setIfInBounds j u)) } :=
  I.lstUpd hp ho (uZ its n j u) (r.set rv j) (by rw[qE];exact hz) s.toks
 by_cases h0:0<=k
 ·have hk:k.toNat=j:=by
   rw[seqIndex_of h0 h4]at h1;exact c7 h1
  exact PySem.W.ki_setAt ho h0 (by omega) (by rw[bD,<-hl];exact h4) (by rw[hk];exact⟨_,I',q⟩)
 ·have hk:(k+(its.toArray.size:Int)).toNat=j:=by
   rw[seqIndex_neg (by omega) h3]at h1;rw[bD,<-hl];exact c7 h1
  exact PySem.W.ki_setBack ho (by omega) (by rw[bD,<-hl];exact h3) (by omega) (by rw[hk];exact⟨_,I',q⟩)
theorem q0(lo hi:Option Int)(n:Nat):(jt lo hi none n).1=((HT.sIx n 0 lo:Nat):Int)/\(jt lo hi none n).2.1=((HT.sIx n n hi:Nat):Int)/\(jt lo hi none n).2.2=1:=by
 refine⟨?_,?_,rfl⟩
 ·cases lo with
  |none=>simp[jt,HT.sIx]
  |some i =>
   simp only[jt,HT.sIx,Option.getD_none,show(1:Int) > 0 by decide,if_true];by_cases h:i<0
   ·simp only[h,if_true]<;>omega
   ·simp only[h,if_false]<;>omega
 ·cases hi with
  |none=>simp[jt,HT.sIx]
  |some i =>
   simp only[jt,HT.sIx,Option.getD_none,show(1:Int) > 0 by decide,if_true];by_cases h:i<0
   ·simp only[h,if_true]<;>omega
   ·simp only[h,if_false]<;>omega
theorem o5(its:Zf)(lo hi:Option Int):slicePick its.toArray lo hi none=((its.drop (HT.sIx its.length 0 lo)).take (HT.sIx its.length its.length hi-HT.sIx its.length 0 lo)).toArray:=by
 obtain⟨h1,h2,h3⟩:=q0 lo hi its.toArray.size;unfold slicePick;rw[h1,h2,h3];simp only[sliceRange_one,pick_run,bD]<;>rfl
def mB(K:Za):V->Option Int->Option Int->Hp->VK->Prop:=fun x lo hi H Q=>∃a xs,x=.ref a/\aA K H a xs/\∀p,H p=none->Q (.ref p) (upd H p (.lst (dD xs lo hi)))
theorem dI:SlR X (mB X.K):=by
 intro J3 s σ H x v vl vu lo hi sl Q I rx hs pl pu h;obtain⟨a,xs,rfl,hx,q⟩:=h;cases rx;obtain⟨its,r,ht,hz⟩:=I.list hx;have hlen:=r.length;refine⟨"list",_,slot_list_getitem.lookup,ht.isList.typeIs,?_⟩;refine wpAny_getItem_list_slice ht.isList hs pl pu .none (by simp) ?_ (by rw[bD]<;>omega);rw[o5,<-hlen];refine⟨.ref s.heap.objs.size,_,I.laid (t':=s.toks) (o:=.lst (dD xs lo hi)) (fun b ob q=>aQ _ q) (aD _) ?_,rfl,q _ (I.hok.fresh (aD _))⟩;exact⟨bF (tV xs lo hi) hz,_,0,(r.drop (HT.sIx xs.length 0 lo)).take (HT.sIx xs.length xs.length hi-HT.sIx xs.length 0 lo),cz _ rfl⟩
theorem r8:eP X (.builtin "len") (fun xs H Q=>∃p ys,xs=[.ref p]/\(aA X.K H p ys∨bN X.K H p ys)/\Q (.int ys.length) H):=by
 intro J3 s σ H xs us Q I r h;obtain⟨p,ys,rfl,hq,q⟩:=h;obtain⟨u,rfl,rx⟩:=vals1 r;cases rx;have hn:=lz;rcases hq with hq|hq
 ·obtain⟨its,r',pl,hz⟩:=I.list hq;have hlen:=r'.length;exact Calls.call_len_list pl.isList (by simp only[bD]<;>omega) ⟨.int ys.length,H,I.tok _,⟨s.toks+1,by rw[bD,hlen]⟩,q⟩
 ·obtain⟨its,r',pl,hz⟩:=I.tuple hq;have hlen:=r'.length;exact len_tuple pl (by simp only[bD]<;>omega) ⟨.int ys.length,H,I.tok _,⟨s.toks+1,by rw[bD,hlen]⟩,q⟩
theorem rZ:eP X (.builtin "len") (fun xs H Q=>∃z,xs=[.str z]/\z.length<=aj/\Q (.int z.length) H):=by
 intro J3 s σ H xs us Q I r h;obtain⟨z,rfl,hz,q⟩:=h;obtain⟨u,rfl,t,rfl⟩:=vals1 r;have hn:=lz;exact len_str (by omega) ⟨.int z.length,H,I.tok _,⟨_,rfl⟩,q⟩
theorem eP.or{f:Value}{r r':List V->Hp->VK->Prop}(h:eP X f r)(h':eP X f r'):eP X f (fun xs H Q=>r xs H Q∨r' xs H Q):=by
 intro J3 s σ H xs us Q I rs q;rcases q with q|q
 ·exact h J3 s σ H xs us Q I rs q
 ·exact h' J3 s σ H xs us Q I rs q
theorem rY:eP X (.type "list") (fun xs H Q=>∃p ys,xs=[.ref p]/\(aA X.K H p ys∨bN X.K H p ys)/\∀l,H l=none->Q (.ref l) (upd H l (.lst ys))):=by
 intro J3 s σ H xs us Q I r h;obtain⟨p,ys,rfl,hq,q⟩:=h;obtain⟨u,rfl,rx⟩:=vals1 r;cases rx;have fin:∀(its:Zf),aK ys its->ys.length<=aj->∀(h':Heap) (c':Nat),(∀b o',s.heap.get? b=some o'->h'.get? b=some o') ->
   h'.get? s.heap.objs.size=some { cls:=.type "list",dict:=none,data:=.seq its.toArray c',slots:=#[] }->EP X J3 σ Q (.ref s.heap.objs.size) { s with heap:=h' }:=fun its r' hz h' c' kp e =>
  ⟨.ref s.heap.objs.size,_,I.laid (t':=s.toks) kp (aD _) (show bS X.prog X.w X.K _ h' _ (.lst ys)from⟨hz,its,c',r',e⟩),rfl,q _ (I.hok.fresh (aD _))⟩
 rcases hq with hq|hq
 ·obtain⟨its,r',pl,hz⟩:=I.list hq;have hlen:=r'.length;obtain⟨o,ho,hc,n,hd⟩:=pl.isList;exact call_list_seq p (.inl rfl) ho hc hd (fun h' c' kp e=>fin its r' hz h' c' kp e) (by simp only[bD]<;>omega)
 ·obtain⟨its,r',pl,hz⟩:=I.tuple hq;have hlen:=r'.length;obtain⟨o,ho,hc,n,hd⟩:=pl;exact call_list_seq p (.inr rfl) ho hc hd (fun h' c' kp e=>fin its r' hz h' c' kp e) (by simp only[bD]<;>omega)
theorem pd:eP X (.type "tuple") (fun xs H Q=>∃p ys,xs=[.ref p]/\((aA X.K H p ys/\∀l,H l=none->Q (.ref l) (upd H l (.tup ys)))∨(bN X.K H p ys/\Q (.ref p) H))):=by
 intro J3 s σ H xs us Q I r h;obtain⟨p,ys,rfl,h⟩:=h;obtain⟨u,rfl,rx⟩:=vals1 r;cases rx;rcases h with⟨hq,q⟩|⟨hq,q⟩
 ·obtain⟨its,r',pl,hz⟩:=I.list hq;have hlen:=r'.length;refine call_tuple_list pl.isList (fun h' kp=>?_) (by simp only[bD]<;>omega);have I1:Inv X J3 σ H { s with heap:=h' }:=I.kept (t':=s.toks) kp;have I2:Inv X J3 σ (upd H h'.objs.size (.tup ys)) { s with heap:=h'.push { cls:=.type "tuple",data:=.seq its.toArray } } :=
   I1.laid (t':=s.toks) (fun b o e=>aQ _ e) (aD _) (show bS X.prog X.w X.K _ _ _ (.tup ys)from⟨hz,its,r',IsTup.new _ _⟩)
  exact⟨.ref h'.objs.size,_,I2,rfl,q _ (I1.hok.fresh (aD _))⟩
 ·obtain⟨its,r',pl,hz⟩:=I.tuple hq;exact call_tuple_same pl ⟨.ref p,H,I,rfl,q⟩
def tyV(K:Za)(T:String)(x:V)(H:Hp):Prop:=match x with
 |.str _=>T="str"
 |.int _=>T="int"
 |.ref p=>(T="list"/\∃xs,aA K H p xs)∨(T="tuple"/\∃o,K.lookup p=some o/\o.cls=.type "tuple"/\o.dict=none) ∨
   (T="dict"/\((∃kvs,H p=some (.dK kvs))∨∃kvs,H p=some (.dT kvs)))∨(T="set"/\∃S n,H p=some (.set S n))
 |_=>False
theorem yt{J3:Zd}{σ:St}{H:Hp}{s:Shared}{T:String}{x:V}{v:Value}(I:Inv X J3 σ H s)(r:RelV x v)(ty:tyV X.K T x H):
  s.TypeIs v T/\∀a,v=.ref a->∃ob,s.heap.get? a=some ob/\ob.dict=none:=by
 cases x with
 |str z =>
  obtain⟨t,rfl⟩:=r;cases(show T="str" from ty);exact⟨typeIs_str s z t,fun _ e=>nomatch e⟩
 |int i =>
  obtain⟨t,rfl⟩:=r;cases(show T="int" from ty);exact⟨typeIs_int s i t,fun _ e=>nomatch e⟩
 |ref p =>
  cases r;rcases ty with⟨rfl,xs,hq⟩|⟨rfl,o,hk,hc,hd⟩|⟨rfl,hk⟩|⟨rfl,S,n,hk⟩
  ·obtain⟨its,_,pl,_⟩:=I.list hq;refine⟨pl.isList.typeIs,fun a e=>?_⟩;cases e;obtain⟨o,n,e,c,hd,_⟩:=pl;exact⟨o,e,hd⟩
  ·refine⟨⟨o,I.kIn p o hk,hc⟩,fun a e=>?_⟩;cases e;exact⟨o,I.kIn _ o hk,hd⟩
  ·have z:∃o,s.heap.get? p=some o/\o.ExactDict:=by
    rcases hk with⟨kvs,hk⟩|⟨kvs,hk⟩
    ·obtain⟨_,_,_,_,o,_,_,e,ex,_⟩:=I.hok p _ hk;exact⟨o,e,ex⟩
    ·obtain⟨_,_,_,_,o,_,_,e,ex,_⟩:=I.hok p _ hk;exact⟨o,e,ex⟩
   obtain⟨o,e,ex⟩:=z;refine⟨⟨o,e,ex.1⟩,fun a e2=>?_⟩;cases e2;exact⟨o,e,ex.2.1⟩
  ·obtain⟨o,_,_,_,e,ex,_⟩:=I.hok p _ hk;refine⟨⟨o,e,ex.1⟩,fun a e2=>?_⟩;cases e2;exact⟨o,e,ex.2.1⟩
 |_=>exact fu ty
def CZ(K:Za)(T:String)(r:V->List V->Hp->VK->Prop)(to:TE):TE:=fun σ H Q=>to σ H fun x H1=>tyV K T x H1/\r x [] H1 Q
def v3(K:Za)(T:String)(r:V->List V->Hp->VK->Prop)(to:TE)(t:TA):TE:=fun σ H Q=>to σ H fun x H1=>tyV K T x H1/\t σ H1 fun xs H2=>r x xs H2 Q
variable{o e:Expr}{es:List Expr}{to:TE}{t:TA}{name:Str}{J5 J4:Pos}{T id:String}{r:V->List V->Hp->VK->Prop}
theorem Ca(pa:PlainAttrs T)(slot:Slot T name id)(hty:typeOf (.builtin id)=pure (.type "method_descriptor"))(hm:MtR X id r)(ho:PE X o to)
  (hbase:pq o name X.env (eval o X.env)=eval o X.env:=by rfl) (hline:(J5.endLine==J4.line)=true:=by rfl):PE X (.Call (.Attribute o name J5) [] [] J4) (CZ X.K T r to):=by
 intro J3 s σ H Q I h;refine wpAny_Call_method0_late hbase hline (bV (ho J3 s σ H _ I h) fun v s1 ⟨x,H1,I1,r1,ty,q1⟩=>?_);obtain⟨h1,h2⟩:=yt I1 r1 ty;exact⟨T,id,pa,slot,hty,h1,h2,Calls.callWith_builtin rfl (PySem.evalArgs_none (hm J3 s1 σ H1 x [] v [] Q I1 r1 .nil q1))⟩
theorem hZ(pa:PlainAttrs T)(slot:Slot T name id)(hty:typeOf (.builtin id)=pure (.type "method_descriptor"))(hm:MtR X id r)(ho:PE X o to)(ha:PA X (e::es) t)
  (hbase:pq o name X.env (eval o X.env)=eval o X.env:=by rfl)
  (hfew:((backTo J4 (aG (e::es) X.env)).all (fun x=>!x.1) && (sB J4 (sA [] X.env)).all (fun x=>x.1.isSome)
   && decide ((e::es).length+([]:List Keyword).length+(if([]:List Keyword).isEmpty then 0 else 1)<30))=true:=by rfl)
  (hline:(J5.endLine==J4.line)=true:=by rfl) (hs:aG (e::es) X.env=(false,eval e X.env)::aG es X.env:=by rfl) (hplain:(backTo J4 (aG es X.env)).any (·.1)=false:=by rfl) :
  PE X (.Call (.Attribute o name J5) (e::es) [] J4) (v3 X.K T r to t):=by
 intro J3 s σ H Q I h;refine wpAny_Call_method_late hbase hfew hline rfl (bV (ho J3 s σ H _ I h) fun v s1 ⟨x,H1,I1,r1,ty,q1⟩=>?_);obtain⟨h1,h2⟩:=yt I1 r1 ty;refine⟨T,id,pa,slot,hty,h1,h2,?_⟩;have hA:=ha J4 J3 s1 σ H1 _ I1 q1;rw[hs]at hA ⊢;refine Calls.callWith_builtin (by show(false || (backTo J4 (aG es X.env)).any (·.1))=false;rw[hplain]<;>rfl) (Calls.evalArgs_plain ?_);exact bV hA fun us s2 ⟨vs,H2,I2,r2,q2⟩=>hm J3 s2 σ H2 x vs v us Q I2 r1 r2 q2
end
end L2
namespace L2
open PySem PySem.Spec PyProof.Rows
def Dz(X:Cx)(id:String)(r:V->List V->Hp->VK->Prop):Prop :=
 ∀(J3:Zd) (s:Shared) (σ:St) (H:Hp) (x:V) (xs:List V) (v:Value) (us:Zf) (Q:VK),Inv X J3 σ H s->RelV x v->aK xs us->r x xs H Q ->
  wpAny (model X.prog X.w) X.A (call (.builtin id) (v::us)) (EP X J3 σ Q) X.xe s
theorem aK.one:∀{x:V}{us:Zf},aK [x] us->∃u,us=[u]/\RelV x u
 |_,_,.cons r .nil=>⟨_,rfl,r⟩
theorem aK.two:∀{x y:V}{us:Zf},aK [x,y] us->∃u v,us=[u,v]/\RelV x u/\RelV y v
 |_,_,_,.cons r (.cons q .nil)=>⟨_,_,rfl,r,q⟩
theorem aK.zero:∀{us:Zf},aK [] us->us=[]
 |_,.nil=>rfl
theorem aK.dropLast{xs:List V}{us:Zf}(h:aK xs us):aK xs.dropLast us.dropLast:=by
 induction h with
 |nil=>exact .nil
 |cons r t ih =>
  cases t with
  |nil=>exact .nil
  |cons q t'=>exact .cons r ih
theorem vg{α:Type}(l:List α):l.eraseIdx (l.length-1)=l.dropLast:=by
 induction l with
 |nil=>rfl
 |cons a r ih =>
  cases r with
  |nil=>rfl
  |cons b r =>
   have e:(a::b::r).length-1=((b::r).length-1)+1:=by
    have h1:(a::b::r).length=r.length+2:=rfl;have h2:(b::r).length=r.length+1:=rfl;omega
   rw[e,List.eraseIdx_cons_succ,ih]
   all_goals rfl
section
variable{X:Cx}{J3:Zd}{σ:St}{H:Hp}{s:Shared}{l b:Addr}{xs ys zs:List V}
theorem Inv.lset{its its':Zf}{n:Nat}{f:Array Value->Array Value}{t':Nat}(I:Inv X J3 σ H s)(hH:H l=some (.lst xs))
  (e:s.heap.get? l=some { cls:=.type "list",data:=.seq its.toArray n }) (hf:f its.toArray=its'.toArray) (hv:aK ys its') (hz:ys.length<=aj) :
  Inv X J3 σ (upd H l (.lst ys)) { s with heap:=s.heap.update l (nC f),toks:=t' }:=by
 have q:=PySem.IsL.update e f;rw[hf]at q;refine I.write (x:=l) (e:=l) (by rw[hH];exact trivial) (.inl rfl) (fun b' u hb hu=>(ju s.heap (nC f) (cO hb)).trans hu) ⟨_,q⟩ ?_;exact⟨hz,its',_,hv,q⟩
theorem Inv.lnew{its:Zf}{t':Nat}(I:Inv X J3 σ H s)(hv:aK ys its)(hz:ys.length<=aj):
  Inv X J3 σ (upd H s.heap.objs.size (.lst ys)) { s with heap:=s.heap.push { cls:=.type "list",data:=.seq its.toArray },toks:=t' } :=
 I.laid (fun _ _ q=>aQ _ q) (aD _) ⟨hz,its,0,hv,cz _ rfl⟩
theorem Inv.fresh(I:Inv X J3 σ H s):H s.heap.objs.size=none:=I.hok.fresh (aD _)
theorem Inv.lstM(I:Inv X J3 σ H s)(hH:H l=some (.lst xs)):xs.length<=aj/\∃(its:Zf) (n:Nat),aK xs its/\xs.length=its.length/\s.heap.get? l=some { cls:=.type "list",data:=.seq its.toArray n }:=by
 obtain⟨z,its,n,r,e⟩:=I.hok l _ hH;exact⟨z,its,n,r,r.length,e⟩
end
section
variable{X:Cx}
def iZ:V->List V->Hp->VK->Prop:=fun x vs H Q=>∃l xs y,x=.ref l/\vs=[y]/\H l=some (.lst xs)/\xs.length<aj/\Q .non (upd H l (.lst (xs++[y])))
theorem fo:Dz X "list.append" iZ:=by
 intro J3 s σ H x vs v us Q I rx rv h;obtain⟨l,xs,y,rfl,rfl,hH,hz,q⟩:=h;cases rx;obtain⟨u,rfl,ru⟩:=rv.one;obtain⟨z,its,n,r,hl,e⟩:=I.lstM hH;refine kU F.slot_list_append ⟨_,e,rfl⟩ F.entry_list_append (F.args_list_append_2 _ _) (PySem.list_append l its.toArray n u (by rw[bD];omega)) ⟨e,?_⟩;refine⟨.non,_,I.lset (its':=its++[u]) hH e (by simp) (r.append (.cons ru .nil)) ?_,rfl,q⟩;rw[bd,List.length_singleton];omega
def C6:V->List V->Hp->VK->Prop:=fun x vs H Q=>∃l xs y,x=.ref l/\vs=[]/\H l=some (.lst xs)/\xs[xs.length-1]?=some y/\Q y (upd H l (.lst xs.dropLast))
theorem Cc:Dz X "list.pop" C6:=by
 intro J3 s σ H x vs v us Q I rx rv h;obtain⟨l,xs,y,rfl,rfl,hH,hy,q⟩:=h;cases rx;have hus:=rv.zero;subst hus;obtain⟨z,its,n,r,hl,e⟩:=I.lstM hH;obtain⟨u,hu,ru⟩:=r.get hy;have hy':its.toArray[its.toArray.size-1]?=some u:=by
  show its.toArray[its.length-1]?=some u;rw[<-Array.getElem?_toList,<-hl];exact hu
 refine kU F.slot_list_pop ⟨_,e,rfl⟩ F.entry_list_pop (F.args_list_pop_1 _) (MeetsSeq.list_pop_last l its.toArray n u hy' (by rw[bD];omega)) ⟨e,?_⟩;refine⟨y,_,I.lset (its':=its.dropLast) hH e ?_ r.dropLast ?_,ru,q⟩
 ·show its.toArray.eraseIdxIfInBounds (its.toArray.size-1)=its.dropLast.toArray;rw[bD,List.eraseIdxIfInBounds_toArray,vg]
 ·rw[List.length_dropLast];omega
def nV:R2:=fun x y H Q=>∃l b xs zs,x=.ref l/\y=.ref b/\H l=some (.lst xs)/\H b=some (.lst zs)/\xs.length+zs.length<=aj/\∀p,H p=none->Q (.ref p) (upd H p (.lst (xs++zs)))
theorem gZ:kF X (lV .Add) nV:=by
 intro J3 s σ H x y v u Q I rx ry h;obtain⟨l,b,xs,zs,rfl,rfl,hH,hB,hz,q⟩:=h;cases rx;cases ry;obtain⟨z,its,n,r,hl,e⟩:=I.lstM hH;obtain⟨z2,its2,n2,r2,hl2,e2⟩:=I.lstM hB;refine PySem.P.add_list e e2 ?_ (by rw[bD,bD];omega);have ea:its.toArray++its2.toArray=(its++its2).toArray:=by simp
 rw[ea];exact⟨.ref _,_,I.lnew (t':=s.toks) (r.append r2) (by rw[bd];omega),rfl,q _ I.fresh⟩
end
end L2
namespace L2
open PySem PySem.Spec PyProof.Rows
section
variable{κ:Type}[DecidableEq κ]
def cI(kvs:List (κ×V))(k:κ):Option V:=(kvs.find? fun kv=>decide (kv.1=k)).map (·.2)
def eK(kvs:List (κ×V))(k:κ)(v:V):List (κ×V) :=
 if(kvs.any fun kv=>decide (kv.1=k))=true then kvs.map (fun kv=>if kv.1=k then(kv.1,v)else kv)else kvs++[(k,v)]
theorem cE{p:κ×V}{r:List (κ×V)}{k:κ}(e:p.1=k):cI (p::r) k=some p.2:=by simp[cI,kT,e]
theorem cu{p:κ×V}{r:List (κ×V)}{k:κ}(e:¬p.1=k):cI (p::r) k=cI r k:=by simp[cI,kT,e]
theorem iw(k:κ):∀kvs:List (κ×V),(kvs.any fun kv=>decide (kv.1=k))=(cI kvs k).isSome
 |[]=>rfl
 |p::r=>by
  rw[qD];by_cases e:p.1=k
  ·simp only[cE e,zzr1 e,Bool.true_or,Option.isSome_some]
  ·rw[cu e,zzr0 e,Bool.false_or];exact iw k r
theorem sN(k j:κ)(y:V):∀kvs:List (κ×V),cI (kvs.map fun kv=>if kv.1=k then(kv.1,y)else kv) j=(cI kvs j).map fun x=>if j=k then y else x
 |[]=>rfl
 |p::r=>by
  have ih:=sN k j y r;rw[aS];by_cases h:p.1=k
  ·rw[if_pos h];by_cases e:p.1=j
   ·rw[cE (p:=(p.1,y)) e,cE e,nB,if_pos (e.symm.trans h)]
   ·rw[cu (p:=(p.1,y)) e,cu e,ih]
  ·rw[if_neg h];by_cases e:p.1=j
   ·rw[cE (p:=p) e,cE e,nB,if_neg (fun z=>h (e.trans z))]
   ·rw[cu (p:=p) e,cu e,ih]
theorem pC(k j:κ)(y:V):∀kvs:List (κ×V),cI kvs k=none->cI (kvs++[(k,y)]) j=if j=k then some y else cI kvs j
 |[],_=>by
  by_cases e:k=j
  ·rw[if_pos e.symm];exact cE (p:=(k,y)) e
  ·rw[if_neg (fun z=>e z.symm)];exact cu (p:=(k,y)) e
 |p::r,hn=>by
  rw[List.cons_append];have hk:¬p.1=k:=fun z=>by rw[cE z]at hn;cases hn
  rw[cu hk]at hn;have ih:=pC k j y r hn;by_cases e:p.1=j
  ·rw[cE e,cE e,if_neg (fun z=>hk (e.trans z))]
  ·rw[cu e,cu e,ih]
theorem sM(kvs:List (κ×V))(k j:κ)(y:V):cI (eK kvs k y) j=if j=k then some y else cI kvs j:=by
 unfold eK;by_cases a:(kvs.any fun kv=>decide (kv.1=k))=true
 ·rw[if_pos a,sN];rw[iw]at a;by_cases e:j=k
  ·obtain⟨x,hx⟩:=vD.mp a;rw[if_pos e,e,hx,nB,if_pos rfl]
  ·rw[if_neg e];cases cI kvs j with
   |none=>rfl
   |some x=>rw[nB,if_neg e]
 ·rw[if_neg a];refine pC k j y kvs ?_;rw[iw]at a;cases q:cI kvs k with
  |none=>rfl
  |some x=>rw[q]at a;exact(a rfl).elim
theorem iG(kvs:List (κ×V))(k:κ)(v:V):(eK kvs k v).length<=kvs.length+1:=by
 unfold eK;split
 ·rw[ap];omega
 ·rw[bd,c6,List.length_nil];omega
theorem tq{kvs:List (κ×V)}{k:κ}(v:V)(h:cI kvs k=none):eK kvs k v=kvs++[(k,v)]:=by
 unfold eK;rw[iw,h];exact if_neg (by decide)
theorem gK.isSome_eq{o:Option V}{u:Option Value}(r:gK o u):o.isSome=u.isSome:=by
 cases o with
 |none=>cases u with
  |none=>rfl
  |some _=>exact(show False from r).elim
 |some _=>cases u with
  |none=>exact(show False from r).elim
  |some _=>rfl
theorem gK.getD{o:Option V}{u:Option Value}{d:V}{d':Value}(r:gK o u)(rd:RelV d d'):RelV (o.getD d) (u.getD d'):=by
 cases o with
 |none=>cases u with
  |none=>exact rd
  |some _=>exact(show False from r).elim
 |some _=>cases u with
  |none=>exact(show False from r).elim
  |some _=>exact r
theorem KV.val{kvs:List (κ×V)}{vs:List (κ×Value)}(r:KV kvs vs)(k:κ):gK (cI kvs k) (js vs k):=by
 unfold KV at r
 induction r with
 |nil=>exact dY
 |@cons p q ps qs h t ih =>
  obtain⟨h1,h2⟩:=h;by_cases e:p.1=k
  ·have e':q.1=k:=h1.symm.trans e;have b:js (q::qs) k=some q.2:=by simp[js,kT,e']
   rw[cE e,b];exact h2
  ·have e':¬q.1=k:=fun z=>e (h1.trans z);have b:js (q::qs) k=js qs k:=by simp[js,kT,e']
   rw[cu e,b];exact ih
theorem KV.any{kvs:List (κ×V)}{vs:List (κ×Value)}(r:KV kvs vs)(k:κ):(kvs.any fun kv=>decide (kv.1=k))=vs.any fun kv=>decide (kv.1=k):=by
 unfold KV at r
 induction r with
 |nil=>rfl
 |cons h t ih=>rw[qD,qD,ih,h.1]
theorem KV.repl{kvs:List (κ×V)}{vs:List (κ×Value)}(r:KV kvs vs)(k:κ){y:V}{u:Value}(ry:RelV y u):
  KV (kvs.map fun kv=>if kv.1=k then(kv.1,y)else kv) (vs.map fun kv=>if kv.1=k then(kv.1,u)else kv):=by
 unfold KV at r ⊢
 induction r with
 |nil=>exact .nil
 |@cons p q ps qs h t ih =>
  rw[aS,aS];refine .cons ?_ ih;obtain⟨h1,h2⟩:=h;by_cases e:p.1=k
  ·rw[if_pos e,if_pos (h1.symm.trans e)];exact⟨h1,ry⟩
  ·rw[if_neg e,if_neg (fun z=>e (h1.trans z))];exact⟨h1,h2⟩
theorem KV.put{kvs:List (κ×V)}{vs:List (κ×Value)}(r:KV kvs vs)(k:κ){y:V}{u:Value}(ry:RelV y u):KV (eK kvs k y) (stored vs k u):=by
 unfold eK stored;rw[r.any k];by_cases e:(vs.any fun kv=>decide (kv.1=k))=true
 ·rw[if_pos e,if_pos e];exact r.repl k ry
 ·rw[if_neg e,if_neg e];exact qC r ⟨rfl,ry⟩
theorem KV.length{kvs:List (κ×V)}{vs:List (κ×Value)}(r:KV kvs vs):kvs.length=vs.length:=Paired.length r
end
theorem ib{P:bj}{w:World}{k:cG}{u:Value}(r:RelV (kV k) u):(bo P w).is k u=true:=by
 cases k with
 |inl i=>obtain⟨t,e⟩:=(show ∃t,u=Value.int i t from r);subst e;exact tH P w i t
 |inr x=>obtain⟨t,e⟩:=(show ∃t,u=Value.str x t from r);subst e;exact tG P w x t
abbrev KT(K:Za)(H:Hp):List (TK×V)->List (TK×Addr×Value)->Prop:=Paired fun p q=>p.1=q.1/\ue K H p.1 (.ref q.2.1)/\p.1.depth<=8/\RelV p.2 q.2.2
theorem KT.val{K:Za}{H:Hp}{kvs:List (TK×V)}{xs:List (TK×Addr×Value)}(r:KT K H kvs xs)(k:TK):gK (cI kvs k) ((atKey xs k).map (·.2)):=by
 induction r with
 |nil=>exact dY
 |@cons p q ps qs h t ih =>
  obtain⟨h1,_,_,h2⟩:=h;by_cases e:p.1=k
  ·have e':q.1=k:=h1.symm.trans e;have b:atKey (q::qs) k=some q.2:=by simp[atKey,kT,e']
   rw[cE e,b];exact h2
  ·have e':¬q.1=k:=fun z=>e (h1.trans z);have b:atKey (q::qs) k=atKey qs k:=by simp[atKey,kT,e']
   rw[cu e,b];exact ih
theorem KT.repl{K:Za}{H:Hp}{kvs:List (TK×V)}{xs:List (TK×Addr×Value)}(r:KT K H kvs xs)(k:TK){y:V}{u:Value}(ry:RelV y u):
  KT K H (kvs.map fun kv=>if kv.1=k then(kv.1,y)else kv) (xs.map (putAt k u)):=by
 induction r with
 |nil=>exact .nil
 |@cons p q ps qs h t ih =>
  rw[aS,aS];refine .cons ?_ ih;obtain⟨h1,h2,h3⟩:=h;unfold putAt;by_cases e:p.1=k
  ·rw[if_pos e,if_pos (h1.symm.trans e)];exact⟨h1,h2,h3.1,ry⟩
  ·rw[if_neg e,if_neg (fun z=>e (h1.trans z))];exact⟨h1,h2,h3⟩
theorem KT.put{K:Za}{H:Hp}{kvs:List (TK×V)}{xs:List (TK×Addr×Value)}(r:KT K H kvs xs)(k:TK){b:Addr}{y:V}{u:Value}(hb:ue K H k (.ref b))(h8:k.depth<=8)(ry:RelV y u):
  KT K H (eK kvs k y) (storedH xs k b u):=by
 have e:(kvs.any fun kv=>decide (kv.1=k))=(atKey xs k).isSome:=by
  rw[iw,(r.val k).isSome_eq,Option.isSome_map]
 unfold eK storedH;rw[e];by_cases q:(atKey xs k).isSome=true
 ·rw[if_pos q,if_pos q];exact r.repl k ry
 ·rw[if_neg q,if_neg q];exact qC r ⟨rfl,hb,h8,ry⟩
theorem KT.keeps{K:Za}{H H':Hp}{kvs:List (TK×V)}{xs:List (TK×Addr×Value)}(r:KT K H kvs xs)(ht:∀b ys,H b=some (.tup ys)->H' b=some (.tup ys)):KT K H' kvs xs :=
 Paired.mapP r fun _ _ z=>⟨z.1,ue.keeps ht 8 z.2.2.1 z.2.1,z.2.2⟩
section
variable{P:bj}{w:World}{K:Za}{H:Hp}{h:Heap}{a:Addr}
theorem Bo{u:HO}(ok:iL P w K H h)(e:Rd H a u):bS P w K H h a u:=e.ok ok
theorem mi{kvs:List (cG×V)}(ok:iL P w K H h)(e:Rd H a (.dK kvs)):kvs.length<=aj/\(a==gA)=false/\∃vs,KV kvs vs/\h.DictOf (bo P w) a vs :=
 show bS P w K H h a (.dK kvs)from Bo ok e
theorem Do{kvs:List (cG×V)}(ok:iL P w K H h)(e:H a=some (.dK kvs)):kvs.length<=aj/\(a==gA)=false/\∃vs,KV kvs vs/\h.DictOf (bo P w) a vs:=mi ok (.inl e)
theorem BQ(ok:iL P w K H h)(kin:K.In h):∀(d:Nat) {k:TK}{v:V}{u:Value},k.depth<=d->ue K H k v->RelV v u->jf h k u:=by
 have key:∀(d:Nat) (ih:∀{k:TK}{v:V}{u:Value},k.depth<=d->ue K H k v->RelV v u->jf h k u) (ks:List TK) (vs:List V) (us:Zf),TK.depths ks<=d->TKCs K H ks vs->aK vs us->TAts h ks us:=by
  intro d ih ks
  induction ks with
  |nil =>
   intro vs us _ hx r;have e:vs=[]:=hx;subst e;cases r
   rfl
  |cons k ks ihl =>
   intro vs us hd hx r;obtain⟨v,vs',rfl,h1,h2⟩:=hx;cases r with
   |@cons _ u _ us' r1 r2 =>
    have hd':max k.depth (TK.depths ks)<=d:=hd;exact⟨u,us',rfl,ih (by omega) h1 r1,ihl vs' us' (by omega) h2 r2⟩
 intro d
 induction d with
 |zero =>
  intro k v u hd hx r;cases k with
  |t l=>exact absurd hd (by show ¬(TK.depths l+1<=0);omega)
  |k b =>
   have e:v=kV b:=hx;subst e;exact ib (P:=P) (w:=w) r
 |succ d ih =>
  intro k v u hd hx r;cases k with
  |k b =>
   have e:v=kV b:=hx;subst e;exact ib (P:=P) (w:=w) r
  |t l =>
   obtain⟨b,xs,rfl,hb,hi⟩:=hx;cases(show u=Value.ref b from r);obtain⟨its,rv,ob,h1,h2,n,h3⟩:∃its:List Value,aK xs its/\IsTup h b its.toArray:=by
    rcases hb with hb|⟨o,its,n,hk,hc,hs,hz,r⟩
    ·obtain⟨_,its,rv,p⟩:=(show bS P w K H h b (.tup xs)from ok b _ hb);exact⟨its,rv,p⟩
    ·exact⟨its.toList,r,o,kin b o hk,hc,n,by simpa using hs⟩
   exact⟨b,ob,its.toArray,n,rfl,h1,h2,h3,by simpa using key d (fun h1=>ih h1) l xs its (by have:TK.depths l+1<=d+1:=hd;omega) hi rv⟩
theorem u8{k:TK}(ok:iL P w K H h)(kin:K.In h)(e:ue K H k (.ref a))(h8:k.depth<=8):(dE P w).is h k a:=⟨BQ ok kin 8 h8 e rfl,h8⟩
theorem oo{kvs:List (TK×V)}(ok:iL P w K H h)(kin:K.In h)(e:Rd H a (.dT kvs)):kvs.length<=aj/\(a==gA)=false /\
  ∃xs,KT K H kvs xs/\h.DictOfH (dE P w) a xs:=by
 obtain⟨z,y,xs,r,o,es,ep,h1,h2,h3,h4,h5⟩:=(show bS P w K H h a (.dT kvs)from Bo ok e);refine⟨z,y,xs,r,o,es,ep,h1,h2,h3,h4,fun x hx=>?_,h5⟩;have all:∀{l:List (TK×V)}{m:List (TK×Addr×Value)},KT K H l m->∀x∈m,(dE P w).is h x.1 x.2.1:=by
  intro l m q
  induction q with
  |nil=>intro x hx;exact nomatch hx
  |@cons p q ps qs hq t ih =>
   intro x hx;rcases bg.mp hx with e|hx
   ·subst e;exact u8 ok kin (by rw[<-hq.1];exact hq.2.1) (by rw[<-hq.1];exact hq.2.2.1)
   ·exact ih x hx
 exact all r x hx
theorem By{kvs:List (TK×V)}(ok:iL P w K H h)(kin:K.In h)(e:H a=some (.dT kvs)):kvs.length<=aj/\(a==gA)=false /\
  ∃xs,KT K H kvs xs/\h.DictOfH (dE P w) a xs:=oo ok kin (.inl e)
end
mutual
def mE(K:Za)(H:Hp):TK->V->Prop
 |.k a,v=>v=kV a
 |.t l,v=>∃b xs,v=.ref b/\bN K H b xs/\TKIns K H l xs
def TKIns(K:Za)(H:Hp):List TK->List V->Prop
 |[],vs=>vs=[]
 |k::r,vs=>∃v us,vs=v::us/\mE K H k v/\TKIns K H r us
end
theorem fJ.isIn{K:Za}{H:Hp}:∀(d:Nat) {k:TK}{v:V},k.depth<=d->fJ H k v->mE K H k v:=by
 have key:∀(d:Nat) (ih:∀{k:TK}{v:V},k.depth<=d->fJ H k v->mE K H k v) (xs:List TK) (vs:List V),TK.depths xs<=d->TKAts H xs vs->TKIns K H xs vs:=by
  intro d ih xs
  induction xs with
  |nil=>intro vs _ hx;exact hx
  |cons x xs ihl =>
   intro vs hd hx;obtain⟨v,us,rfl,hx1,hx2⟩:=hx;have hd':max x.depth (TK.depths xs)<=d:=hd;exact⟨v,us,rfl,ih (by omega) hx1,ihl us (by omega) hx2⟩
 intro d
 induction d with
 |zero =>
  intro k v hd hx;cases k with
  |t l=>exact absurd hd (by show ¬(TK.depths l+1<=0);omega)
  |k a=>exact hx
 |succ d ih =>
  intro k v hd hx;cases k with
  |k a=>exact hx
  |t l =>
   obtain⟨b,xs,rfl,hb,hi⟩:=hx;exact⟨b,xs,rfl,bN.of hb,key d (fun h1=>ih h1) l xs (by have:TK.depths l+1<=d+1:=hd;omega) hi⟩
theorem Aj{X:Cx}{J3:Zd}{σ:St}{H:Hp}{s:Shared}(I:Inv X J3 σ H s):∀(d:Nat) {k:TK}{v:V}{u:Value},k.depth<=d->mE X.K H k v->RelV v u->jf s.heap k u:=by
 have key:∀(d:Nat) (ih:∀{k:TK}{v:V}{u:Value},k.depth<=d->mE X.K H k v->RelV v u->jf s.heap k u) (ks:List TK) (vs:List V) (us:Zf),TK.depths ks<=d->TKIns X.K H ks vs->aK vs us->TAts s.heap ks us:=by
  intro d ih ks
  induction ks with
  |nil =>
   intro vs us _ hx r;have e:vs=[]:=hx;subst e;cases r
   rfl
  |cons k ks ihl =>
   intro vs us hd hx r;obtain⟨v,vs',rfl,h1,h2⟩:=hx;cases r with
   |@cons _ u _ us' r1 r2 =>
    have hd':max k.depth (TK.depths ks)<=d:=hd;exact⟨u,us',rfl,ih (by omega) h1 r1,ihl vs' us' (by omega) h2 r2⟩
 intro d
 induction d with
 |zero =>
  intro k v u hd hx r;cases k with
  |t l=>exact absurd hd (by show ¬(TK.depths l+1<=0);omega)
  |k b =>
   have e:v=kV b:=hx;subst e;exact ib (P:=X.prog) (w:=X.w) r
 |succ d ih =>
  intro k v u hd hx r;cases k with
  |k b =>
   have e:v=kV b:=hx;subst e;exact ib (P:=X.prog) (w:=X.w) r
  |t l =>
   obtain⟨b,xs,rfl,hb,hi⟩:=hx;cases(show u=Value.ref b from r);obtain⟨its,rv,⟨ob,h1,h2,n,h3⟩,_⟩:=I.tuple hb;exact⟨b,ob,its.toArray,n,rfl,h1,h2,h3,by simpa using key d (fun h1=>ih h1) l xs its (by have:TK.depths l+1<=d+1:=hd;omega) hi rv⟩
theorem rG{X:Cx}{J3:Zd}{σ:St}{H:Hp}{s:Shared}{k:TK}{b:Addr}(I:Inv X J3 σ H s)(e:mE X.K H k (.ref b))(h8:k.depth<=8):(dE X.prog X.w).is s.heap k b:=⟨Aj I 8 h8 e rfl,h8⟩
theorem fj{P:bj}{w:World}{A:Around}(hu:A.units+16<cLine):(dE P w).room A.in1:=by
 show A.units+1+8<cLine;omega
def sr(K:Za)(H:Hp)(a:Addr)(y:V)(r:Option V):Prop :=
 (∃kvs k,Rd H a (.dK kvs)/\y=kV k/\r=cI kvs k)∨∃kvs k b,Rd H a (.dT kvs)/\y=.ref b/\mE K H k (.ref b)/\k.depth<=8/\r=cI kvs k
def DF(H:Hp)(a:Addr)(y v:V)(H':Hp):Prop :=
 (∃kvs k,H a=some (.dK kvs)/\y=kV k/\kvs.length<aj/\H'=upd H a (.dK (eK kvs k v))) ∨
 ∃kvs k b,H a=some (.dT kvs)/\y=.ref b/\fJ H k (.ref b)/\k.depth<=8/\kvs.length<aj/\H'=upd H a (.dT (eK kvs k v))
section
variable{X:Cx}{J3:Zd}{σ:St}{H:Hp}{s:Shared}{a:Addr}{y v:V}{u r:Value}{o:Option V}{A:Around}{E:Zc}
theorem Inv.big(I:Inv X J3 σ H s):gA<s.heap.objs.size:=by
 have h:bh<s.heap.objs.size:=(I.mod.glob.keeps I.bk).lt;exact Nat.lt_trans (by decide) h
theorem xV{Q:Zc}(hu:A.units+16<cLine)(I:Inv X J3 σ H s)(g:sr X.K H a y (some v))(ry:RelV y u)(h:∀w' s',Inv X J3 σ H s'->RelV v w'->Q w' s'):
  wpAny (model X.prog X.w) A (jw (.ref a) u) Q E s:=by
 rcases g with⟨kvs,k,e,ey,l⟩|⟨kvs,k,b,e,ey,eb,e8,l⟩
 ·subst ey;obtain⟨z,hd,vs,rel,dd⟩:=mi I.hok e;obtain⟨w',hw,rw'⟩:=gK.some_of (v:=v) (o:=js vs k) (by rw[l];exact rel.val k);exact wpAny_getItem_of (ib ry) dd.mapOf hw (h w' _ (I.tok _) rw')
 ·subst ey;cases(show u=Value.ref b from ry);obtain⟨z,hd,xs,rel,dd⟩:=oo I.hok I.kIn e;obtain⟨w',hw,rw'⟩:=gK.some_of (v:=v) (o:=(atKey xs k).map (·.2)) (by rw[l];exact rel.val k);obtain⟨p,hp,hp2⟩:=qA.mp hw;refine wpAny_getItem_heap (fj hu) (rG I eb e8) dd hp ?_;rw[hp2];exact h w' _ (I.tok _) rw'
theorem d_in{Q:Zc}(hu:A.units+16<cLine)(I:Inv X J3 σ H s)(g:sr X.K H a y o)(ry:RelV y u)(h:∀s',Inv X J3 σ H s'->Q (.bool o.isSome) s'):
  wpAny (model X.prog X.w) A (da .In u (.ref a)) Q E s:=by
 rcases g with⟨kvs,k,e,ey,l⟩|⟨kvs,k,b,e,ey,eb,e8,l⟩
 ·subst ey;obtain⟨z,hd,vs,rel,dd⟩:=mi I.hok e;refine wpAny_in_of (ib ry) hd dd.mapOf ?_;rw[<-(rel.val k).isSome_eq,<-l];exact h _ (I.tok _)
 ·subst ey;cases(show u=Value.ref b from ry);obtain⟨z,hd,xs,rel,dd⟩:=oo I.hok I.kIn e;refine wpAny_in_heap (fj hu) (rG I eb e8) hd dd ?_;have q:=(rel.val k).isSome_eq;rw[Option.isSome_map]at q;rw[<-q,<-l];exact h _ (I.tok _)
theorem A5{Q:Zc}(hu:A.units+16<cLine)(I:Inv X J3 σ H s)(g:sr X.K H a y o)(ry:RelV y u)(h:∀s',Inv X J3 σ H s'->Q (.bool (!o.isSome)) s'):
  wpAny (model X.prog X.w) A (da .NotIn u (.ref a)) Q E s:=by
 rcases g with⟨kvs,k,e,ey,l⟩|⟨kvs,k,b,e,ey,eb,e8,l⟩
 ·subst ey;obtain⟨z,hd,vs,rel,dd⟩:=mi I.hok e;refine wpAny_notIn_of (ib ry) hd dd.mapOf ?_;rw[<-(rel.val k).isSome_eq,<-l];exact h _ (I.tok _)
 ·subst ey;cases(show u=Value.ref b from ry);obtain⟨z,hd,xs,rel,dd⟩:=oo I.hok I.kIn e;refine wpAny_notIn_heap (fj hu) (rG I eb e8) hd dd ?_;have q:=(rel.val k).isSome_eq;rw[Option.isSome_map]at q;rw[<-q,<-l];exact h _ (I.tok _)
theorem rW{h':Heap}{t':Nat}{ob:HO}(I:Inv X J3 σ H s)(mu:Dy (H a))(hs:gy a s.heap h')(he:∃q,h'.get? a=some q)(new:bS X.prog X.w X.K (upd H a ob) h' a ob):
  Inv X J3 σ (upd H a ob) { s with heap:=h',toks:=t' } :=
 I.write (x:=a) (e:=a) mu (.inl rfl) (fun b q hb z=>(hs.2 b hb).trans z) he new
theorem zJ{P:bj}{w:World}{K:Za}{H':Hp}{h':Heap}{kvs:List (cG×V)}{vs:List (cG×Value)}(z:kvs.length<=aj)(hd:(a==gA)=false)(rel:KV kvs vs)(dd:h'.DictOf (bo P w) a vs):
  bS P w K H' h' a (.dK kvs):=⟨z,hd,vs,rel,dd⟩
theorem xU{H':Hp}{Q:Unit->Shared->Prop}(hu:A.units+16<cLine)(I:Inv X J3 σ H s)(g:DF H a y v H')(ry:RelV y u)(rv:RelV v r)(h:∀s',Inv X J3 σ H' s'->Q () s'):
  wpAny (model X.prog X.w) A (setItem (.ref a) u r) Q E s:=by
 rcases g with⟨kvs,k,e,ey,l,eH⟩|⟨kvs,k,b,e,ey,eb,e8,l,eH⟩
 ·subst ey eH;obtain⟨z,hd,vs,rel,dd⟩:=Do I.hok e;have hz:vs.length<=aj:=by rw[<-rel.length];exact z
  have hl:(eK kvs k v).length<=aj:=by have:=iG kvs k v;omega
  refine wpAny_setItem_pairs (hsz:=hz) (ib ry) dd fun h' dd' hs=>h _ ?_;have he:∃q,h'.get? a=some q:=let⟨q,_,_,hq,_⟩:=dd';⟨q,hq⟩;exact rW I (by rw[e];exact dY) hs he (zJ hl hd (rel.put k rv) dd')
 ·subst ey eH;cases(show u=Value.ref b from ry);obtain⟨z,hd,xs,rel,dd⟩:=By I.hok I.kIn e;have hz:xs.length<=aj:=by rw[<-Paired.length rel];exact z
  have hl:(eK kvs k v).length<=aj:=by have:=iG kvs k v;omega
  refine wpAny_setItem_heap (hsz:=hz) (fj hu) (u8 I.hok I.kIn (fJ.c 8 e8 eb) e8) dd fun h' dd' hs=>h _ ?_;obtain⟨q,es,ep,hq,h2,h3,h4,_,h5⟩:=dd';refine rW I (by rw[e];exact dY) hs ⟨q,hq⟩ ⟨hl,hd,_,(rel.put k (fJ.c 8 e8 eb) e8 rv).keeps fun c ys ec=>?_,q,es,ep,hq,h2,h3,h4,h5⟩;rw[ai (Bv ec e (fun z=>nomatch z))];exact ec
end
def x8(i:Expr):Prop:=∀ov iv,qF i false ov iv=operate [ov,iv] (jw ov iv)
theorem Ao{prog:bj}{w:World}{A:Around}{E:Zc}{s:Shared}{env:Env}{value slice:Expr}{pos:Pos}{T id:String}{Q:Zc}
  (hl:typeLookup (.type T) "__getitem__"=pure (some (.builtin id))) (hs:x8 slice)
  (h:wpAny (model prog w) A (eval value env) (fun o s₁=>wpAny (model prog w) A (eval slice env) (fun i s₂=>s₂.TypeIs o T/\wpAny (model prog w) A (jw o i) Q E s₂) E s₁) E s) :
  wpAny (model prog w) A (eval (.Subscript value slice pos) env) Q E s:=by
 refine Subscript_ (d4 h (fun o s₁ h₁=>d4 h₁ (fun i s₂ h₂=>?_) fun _ _ x=>x) fun _ _ x=>x);obtain⟨hT,h₂⟩:=h₂;unfold subscriptTail;refine am ?_;rw[getitemInPython_of_ne hT.not_modules];refine am (Ac hT hl ?_);have fin:wpAny (model prog w) A (qF slice false o i) (fun r s₃=>wpAny (model prog w) A (letTemporaryGo value o r >>= fun _=>pure r) Q E s₃) E s₂:=by
  rw[hs o i];exact wpAny_operating (d4 h₂ (fun r s₃ h₃=>am (wpAny_letTemporaryGo (aW h₃))) fun _ _ x=>x)
 first
  |exact aW (am fin)
  |exact am (aW (am fin))
  |exact am fin
theorem tU{X:Cx}{J3:Zd}{σ:St}{H:Hp}{s:Shared}{a:Addr}{y:V}{o:Option V}(I:Inv X J3 σ H s)(g:sr X.K H a y o):s.TypeIs (.ref a) "dict":=by
 rcases g with⟨kvs,k,e,_,_⟩|⟨kvs,k,b,e,_,_,_⟩
 ·obtain⟨_,_,vs,_,dd⟩:=mi I.hok e;exact dd.typeIs
 ·obtain⟨_,_,xs,_,dd⟩:=oo I.hok I.kIn e;exact dd.typeIs
def vZ(K:Za)(td ty:TE):TE:=fun σ H Q=>td σ H fun x H1=>ty σ H1 fun y H2=>∃a v,x=.ref a/\sr K H2 a y (some v)/\Q v H2
def An(K:Za)(ty td:TE):TE:=fun σ H Q=>ty σ H fun y H1=>td σ H1 fun x H2=>∃a o,x=.ref a/\sr K H2 a y o/\Q (.bl o.isSome) H2
def mJ(K:Za)(ty td:TE):TE:=fun σ H Q=>ty σ H fun y H1=>td σ H1 fun x H2=>∃a o,x=.ref a/\sr K H2 a y o/\Q (.bl (!o.isSome)) H2
def pL(td ty tv:TE):TS:=fun D σ H=>tv σ H fun v H1=>td σ H1 fun x H2=>ty σ H2 fun y H3=>∃a H4,x=.ref a/\DF H3 a y v H4/\D.nx σ H4
section
variable{X:Cx}{o i e value:Expr}{pos pos' J8:Pos}{td ty tv:TE}
theorem rp(hu:X.A.units+16<cLine)(ho:PE X o td)(hi:PE X i ty)(hs:x8 i):PE X (.Subscript o i pos) (vZ X.K td ty):=by
 intro J3 s σ H Q I h;refine Ao PySem.F.slot_dict_getitem.lookup hs (bV (ho J3 s σ H _ I h) fun u s1 ⟨x,H1,I1,rx,q1⟩=>bV (hi J3 s1 σ H1 _ I1 q1) fun iv s2 ⟨y,H2,I2,ry,a,v,ex,g,q2⟩=>?_);subst ex;obtain rfl:u=Value.ref a:=rx;exact⟨tU I2 g,xV hu I2 g ry fun w' s3 I3 rw'=>⟨v,H2,I3,rw',q2⟩⟩
theorem uU(hu:X.A.units+16<cLine)(hi:PE X i ty)(ho:PE X o td):PC X .In i o (An X.K ty td):=by
 intro J3 s σ H Q I h;refine bV (hi J3 s σ H _ I h) fun iv s1 ⟨y,H1,I1,ry,q1⟩=>bV (ho J3 s1 σ H1 _ I1 q1) fun u s2 ⟨x,H2,I2,rx,a,ov,ex,g,q2⟩=>?_;subst ex;obtain rfl:u=Value.ref a:=rx;exact d_in hu I2 g ry fun s3 I3=>⟨.bl ov.isSome,H2,I3,rfl,q2⟩
theorem lp(hu:X.A.units+16<cLine)(hi:PE X i ty)(ho:PE X o td):PC X .NotIn i o (mJ X.K ty td):=by
 intro J3 s σ H Q I h;refine bV (hi J3 s σ H _ I h) fun iv s1 ⟨y,H1,I1,ry,q1⟩=>bV (ho J3 s1 σ H1 _ I1 q1) fun u s2 ⟨x,H2,I2,rx,a,ov,ex,g,q2⟩=>?_;subst ex;obtain rfl:u=Value.ref a:=rx;exact A5 hu I2 g ry fun s3 I3=>⟨.bl (!ov.isSome),H2,I3,rfl,q2⟩
theorem kg(hu:X.A.units+16<cLine)(ho:PE X o td)(hi:PE X i ty)(hv:PE X value tv)(hs:mW value (some (.Subscript o i pos')) pos.line X.env=pure false):
  PS X (.Assign [.Subscript o i pos'] value pos) (pL td ty tv):=by
 intro J3 s σ H D I h;refine wpAny_Assign_Subscript (bV (hv J3 s σ H _ I h) fun r s1 ⟨v,H1,I1,rv,q1⟩=>bV (ho J3 s1 σ H1 _ I1 q1) fun u s2 ⟨x,H2,I2,rx,q2⟩=>bV (hi J3 s2 σ H2 _ I2 q2) fun iv s3 ⟨y,H3,I3,ry,a,H4,ex,g,q3⟩=>?_) hs;subst ex;obtain rfl:u=Value.ref a:=rx;exact xU hu I3 g ry rv fun s4 I4=>⟨σ,H4,I4,q3⟩
end
theorem zK{P:bj}{w:World}{K:Za}{H:Hp}(h:Heap)(hb:gA<h.objs.size):bS P w K H (h.push { cls:=.type "dict",data:=.dict #[] }) h.objs.size (.dK []) :=
 ⟨cy _,beq_eq_false_iff_ne.mpr (cO (bP hb)),[],.nil,Heap.DictOf.new h⟩
theorem zI{P:bj}{w:World}{K:Za}{H:Hp}(h:Heap)(hb:gA<h.objs.size):bS P w K H (h.push { cls:=.type "dict",data:=.dict #[] }) h.objs.size (.dT []) :=
 ⟨cy _,beq_eq_false_iff_ne.mpr (cO (bP hb)),[],.nil,_,#[],0,cz _ rfl,⟨rfl,rfl,rfl⟩,rfl,rfl,ir⟩
def qU:TE:=fun _ H Q=>∀p,H p=none->Q (.ref p) (upd H p (.dK []))
def uC:TE:=fun _ H Q=>∀p,H p=none->Q (.ref p) (upd H p (.dT []))
section
variable{X:Cx}{pos:Pos}
theorem n6:PE X (.Dict [] [] pos) qU:=fun J3 s σ H Q I h =>
 wpAny_Dict_empty ⟨.ref s.heap.objs.size,_,I.laid (a:=s.heap.objs.size) (o:=.dK []) (t':=s.toks) (fun _ _ q=>aQ _ q) (aD _) (zK s.heap I.big),rfl,h _ (I.hok.fresh (aD _))⟩
theorem tw:PE X (.Dict [] [] pos) uC:=fun J3 s σ H Q I h =>
 wpAny_Dict_empty ⟨.ref s.heap.objs.size,_,I.laid (a:=s.heap.objs.size) (o:=.dT []) (t':=s.toks) (fun _ _ q=>aQ _ q) (aD _) (zI s.heap I.big),rfl,h _ (I.hok.fresh (aD _))⟩
end
def gm(kvs more:List (cG×V)):List (cG×V):=more.foldl (fun acc kv=>eK acc kv.1 kv.2) kvs
theorem KV.merge:∀{more:List (cG×V)}{rs:List (cG×Value)}{kvs:List (cG×V)}{vs:List (cG×Value)},KV more rs->KV kvs vs->KV (gm kvs more) (merged vs rs):=by
 intro more rs kvs vs r;unfold KV at r
 induction r generalizing kvs vs with
 |nil=>intro q;exact q
 |@cons p q ps qs h t ih =>
  intro r0;have e:KV (eK kvs p.1 p.2) (stored vs q.1 q.2):=by
   have:=r0.put p.1 h.2;rw[<-h.1];exact this
  exact ih e
theorem jm:∀(more kvs:List (cG×V)),(gm kvs more).length<=kvs.length+more.length
 |[],kvs=>by show kvs.length<=kvs.length+0;omega
 |p::r,kvs=>by
  have h1:=jm r (eK kvs p.1 p.2);have h2:=iG kvs p.1 p.2;show(gm (eK kvs p.1 p.2) r).length<=_;rw[c6];omega
structure M2(X:Cx)(o:Expr)(m:Str)(J5:Pos)(e f:Expr)(J4:Pos):Prop where
 base:pq o m X.env (eval o X.env)=eval o X.env
 few:((backTo J4 (aG [e,f] X.env)).all (fun x=>!x.1) && (sB J4 (sA [] X.env)).all (fun x=>x.1.isSome)
  && decide (([e,f]:List Expr).length+([]:List Keyword).length+(if([]:List Keyword).isEmpty then 0 else 1)<30))=true
 line:(J5.endLine==J4.line)=true
 trees:backTo J4 (aG [e,f] X.env)=[(false,eval e X.env),(false,eval f X.env)]
def IsD(H:Hp)(a:Addr):Prop:=(∃kvs,Rd H a (.dK kvs))∨∃kvs,Rd H a (.dT kvs)
theorem Ch{X:Cx}{J3:Zd}{σ:St}{H:Hp}{s:Shared}{a:Addr}(I:Inv X J3 σ H s)(d:IsD H a):
  s.TypeIs (.ref a) "dict"/\(∀b,Value.ref a=.ref b->∃ob,s.heap.get? b=some ob/\ob.dict=none)/\(a==gA)=false:=by
 rcases d with⟨kvs,e⟩|⟨kvs,e⟩
 ·obtain⟨_,hd,vs,_,dd⟩:=mi I.hok e;refine⟨dd.typeIs,fun b q=>?_,hd⟩;cases q;obtain⟨ob,_,_,h1,h2,_⟩:=dd;exact⟨ob,h1,h2.2.1⟩
 ·obtain⟨_,hd,xs,_,dd⟩:=oo I.hok I.kIn e;refine⟨dd.typeIs,fun b q=>?_,hd⟩;cases q;obtain⟨ob,_,_,h1,h2,_⟩:=dd;exact⟨ob,h1,h2.2.1⟩
section
variable{X:Cx}{J3:Zd}{σ:St}{H:Hp}{s:Shared}{a:Addr}{y d:V}{u r:Value}{o:Option V}{A:Around}{E:Zc}
theorem Cu{Q:Zc}(hu:A.units+16<cLine)(I:Inv X J3 σ H s)(g:sr X.K H a y o)(ry:RelV y u)(rd:RelV d r)(h:∀w' s',Inv X J3 σ H s'->RelV (o.getD d) w'->Q w' s'):
  wpAny (model X.prog X.w) A (call (.builtin "dict.get") [.ref a,u,r]) Q E s:=by
 rcases g with⟨kvs,k,e,ey,l⟩|⟨kvs,k,b,e,ey,eb,e8,l⟩
 ·subst ey;obtain⟨z,hd,vs,rel,dd⟩:=mi I.hok e;refine call_meetsIn PySem.F.slot_dict_get dd.typeIs PySem.F.entry_dict_get (PySem.F.args_dict_get_3 _ _ _) (meets_dict_get_default (bo X.prog X.w) a (ib ry) hd r) ⟨_,dd.mapOf,h _ _ (I.tok _) ?_⟩;rw[l];exact(rel.val k).getD rd
 ·subst ey;cases(show u=Value.ref b from ry);obtain⟨z,hd,xs,rel,dd⟩:=oo I.hok I.kIn e;refine call_meetsIn PySem.F.slot_dict_get dd.typeIs PySem.F.entry_dict_get (PySem.F.args_dict_get_3 _ _ _) (meetsH_dict_get_default (dE X.prog X.w) a b hd r) ⟨fj hu,k,xs,rG I eb e8,dd,h _ _ (I.tok _) ?_⟩;rw[l];exact(rel.val k).getD rd
end
def yE(K:Za)(td ty tx:TE):TE:=fun σ H Q=>td σ H fun x H1=>∃a,x=.ref a/\IsD H1 a/\ty σ H1 fun y H2=>tx σ H2 fun z H3=>∃o,sr K H3 a y o/\Q (o.getD z) H3
section
variable{X:Cx}{o e f:Expr}{J5 J4:Pos}{td ty tx:TE}
theorem y4(hu:X.A.units+16<cLine)(ho:PE X o td)(he:PE X e ty)(hf:PE X f tx)(m:M2 X o "get" J5 e f J4):PE X (.Call (.Attribute o "get" J5) [e,f] [] J4) (yE X.K td ty tx):=by
 intro J3 s σ H Q I h;refine wpAny_Call_method m.base m.few m.line PySem.F.plainAttrs_dict PySem.F.slot_dict_get PySem.F.type_dict_get (bV (ho J3 s σ H _ I h) fun u s1 ⟨x,H1,I1,rx,a,ex,d,q1⟩=>?_);subst ex;obtain rfl:u=Value.ref a:=rx;obtain⟨t1,t2,_⟩:=Ch I1 d;refine⟨t1,t2,?_⟩;rw[m.trees];refine Calls.callWith_builtin rfl (Calls.evalArgs_plain (Calls.spliced_cons (bV (he J3 s1 σ H1 _ I1 q1) fun iv s2 ⟨y,H2,I2,ry,q2⟩ =>
  Calls.spliced_cons (bV (hf J3 s2 σ H2 _ I2 q2) fun fv s3 ⟨z,H3,I3,rz,ov,g,q3⟩=>Calls.spliced_nil ?_))))
 exact Cu hu I3 g ry rz fun w' s4 I4 rw'=>⟨_,H3,I4,rw',q3⟩
end
end L2
namespace Att
open PySem PySem.W PySem.Calls PyProof.Rows
theorem ints_of_wellAll{P:Params}{h:Heap}:∀(ns:List Int) (vs:Zf),WellAll P h vs (ns.map WData.int)->nr vs ns:=by
 intro ns
 induction ns with
 |nil =>
  intro vs w;rw[List.map_nil]at w;cases w;exact .nil
 |cons n ns ih =>
  intro vs w;rw[aS]at w;cases w with
  |cons a b =>
   cases a;exact .cons _ _ (ih _ b)
theorem script_of{l:OpenLaw}{n:Nat}(hn:l.most=some n){P:Params}{h:Heap}{args:List WData}{vals:Zf}
  (hpre:l.row.toRowW.claim.pre args=true) (hwl:WellAll P h vals args) :
  ∃a vs ns,vals=[Value.ref a]/\args=[WData.list (ns.map WData.int)]/\h.get? a=some { cls:=.type "list",data:=.seq vs.toArray }/\nr vs ns/\ns.length<=n:=by
 have hsh:WShape.hasAll [] args [.list .int]=true:=(pre_splitW hpre).1;have hc:l.pre.holds [] { args:=args }=true:=(pre_splitW hpre).2;obtain⟨d,r,rfl,h1,h2⟩:=hasAllW_cons hsh;obtain rfl:=hasAllW_nil h2;obtain⟨xs,rfl,h3⟩:=hasW_list h1;obtain⟨ns,rfl⟩:=items_int h3;have hlen:ns.length<=n:=by
  unfold OpenLaw.pre at hc;have h4:(WTm.not (.lt (.lit (.int (n:Int))) (.len (.arg 0)))).holds [] { args:=[.list (ns.map .int)] }=true:=by
   have h4:=(holds_andW hc).1;rw[hn]at h4;exact h4
  have h5:=condW_of h4 (w_not (w_lt w_lit (w_len_list (w_arg rfl))));rw[ap]at h5;refine Nat.le_of_not_lt fun q=>?_;have q':(n:Int)<((ns.length:Nat):Int):=by omega
  first
   | (rw[zzr1 q']at h5;exact absurd h5 (by decide))
   | (simp at h5;omega)
 cases hwl with
 |cons w1 w2 =>
  cases w2;cases w1 with
  |list ho hall=>exact⟨_,_,ns,rfl,rfl,ho,ints_of_wellAll ns _ hall,hlen⟩
theorem post_true(l:OpenLaw)(args:List WData):l.row.toRowW.claim.post args (.bool true) args=true :=
 postW_of (r:=l.row.toRowW) (X:=(true==true))
  (show WShape.has [] (.bool true) .bool=true by first|rfl|decide|simp[WShape.has,WShape.arms,WShape.armsAll])
  (show(WTm.eq .res (.lit (.bool true))).value [] { args:=args,res:=some (.bool true),after:=args }=some (.bool (true==true))from w_eq_bool (w_res rfl) w_lit) rfl
theorem attach_call{l:OpenLaw}{n:Nat}{q:bj}{loose:Zb}{XP:(Str->Option Value)->Heap->Prop}{YP:World->Heap->Prop}{d:DefRec}
  (hn:l.most=some n) (hdf:d.params.defaults=[])
  (call:∀(w:World) (s₀ s₁:Shared) (mg mb:Str->Option Value) (fa:Addr) (o:Obj) (pm cd doc:Value) (a:Addr) (vs:Zf) (ns:List Int),
   Ground q loose [] XP w s₀ mg mb s₁.heap->YP w s₁.heap ->
   s₁.heap.get? fa=some o->o.data=.func (docDef d.name d.params d.body d.scope pm cd doc)->s₁.heap.CodeRec cd d.name->mg d.name=some (.ref fa) ->
   s₁.heap.get? a=some { cls:=.type "list",data:=.seq vs.toArray }->nr vs ns->ns.length<=n->s₁.gens=#[] ->
   zzl76 (model l.prog w) ip (.call (.ref fa) ⟨[.ref a],[]⟩) (fun r s'=>r=.ok (.ret (.bool true))/\OldK s₁.heap s'.heap/\s'.os=s₁.os/\jZ s'.gens) s₁) :
  WalkO q loose XP YP l.row.toRowW d [] (fun f vs=>PySem.call f vs):=by
 intro w s₀ s₁ mg mb G Y fa o pm cd doc dV kV ho hd hcd hD hmg hg args vals as hpre hlay hrd hwl hlo;obtain rfl:dV=.none:=Dflts.none hD hdf;obtain rfl:kV=.none:=Dflts.noKw hD;obtain⟨a,vs,ns,rfl,rfl,hobj,hints,hlen⟩:=script_of hn hpre hwl;refine enter_call (vF (call w s₀ s₁ mg mb fa o pm cd doc a vs ns G Y ho (fd_plain hd) hcd hmg hobj hints hlen hg) fun r s' hq=>?_);obtain⟨rfl,h2,h3,h4⟩:=hq;exact⟨.inl ⟨.bool true,.bool true,[],rfl,fun _=>rfl,.bool true,post_true l _,fun _=>⟨List.Pairwise.nil,fun _ hm=>(nomatch hm)⟩⟩,h2,h3,h4⟩
end Att
namespace L2
open PySem PySem.Spec PyProof.Rows
theorem pB:∀{vs:Zf}{ns:List Int},nr vs ns->aK (ns.map V.int) vs
 |_,_,.nil=>.nil
 |_,_,.cons n t h=>.cons ⟨t,rfl⟩ (pB h)
def Be(H:Hp):Prop:=∀b,H b=none∨∃o xs,H b=some (.frz o (.lst xs))
theorem zk{P:bj}{w:World}{K:Za}{mg mb:Str->Option Value}{CX:ym}{k:Nat}{fa a:Addr}{fd:hV}{x:Str}{sp:Sp}{s₁:Shared}{vs:Zf}{ns:List Int}
  (KX:K.In s₁.heap) (hns:s₁.heap.Ns bh mg) (hb:s₁.heap.Ns builtinsNs mb) (hbb:∀x:Str,x≠"__name__"->mb x=fS x) (hlim:s₁.heap.NoLimit) (hg:s₁.gens=#[])
  (ha:s₁.heap.get? a=some { cls:=.type "list",data:=.seq vs.toArray }) (hi:nr vs ns) (hl:ns.length<=aj) (hr:dw k ip)
  (F:∀base:Heap,K.In base->base.Ns bh mg->jg P w K mg base CX k fa fd [x] sp) (hbind:∀(s:Shared) (u:Value),mU s fd ⟨[u],[]⟩ [(x,u)])
  (hsp:∀H:Hp,Be H->aA K H a (ns.map V.int)->sp [.ref a] H (fun v _=>v=.bl true) fun _ _ _=>False)
  (hCX:∀H e s',CX [] H s₁ (fun _ _ _=>False) e s'->False) :
  zzl76 (model P w) ip (.call (.ref fa) ⟨[.ref a],[]⟩) (fun r s'=>r=.ok (.ret (.bool true))/\OldK s₁.heap s'.heap/\s'.os=s₁.os/\jZ s'.gens) s₁:=by
 have rv:=pB hi;have lenV:=hi.length;have core:∀H:Hp,Be H->aA K H a (ns.map V.int)->iL P w K H s₁.heap->(∀b,H b≠none->b=a)->(H a≠none->K.lookup a=none) ->
   zzl76 (model P w) ip (.call (.ref fa) ⟨[.ref a],[]⟩) (fun r s'=>r=.ok (.ret (.bool true))/\OldK s₁.heap s'.heap/\s'.os=s₁.os/\jZ s'.gens) s₁:=by
  intro H hO hS hok hA hK;have base_of:∀{b:Addr}{o:Obj},s₁.heap.get? b=some o->H b=none->(rH s₁.heap H).get? b=some o:=fun e n=>zu e n;have noA:∀{b:Addr}{o:Obj}{es:Array DictEntry}{ep:Nat},s₁.heap.get? b=some o->o.data=.dict es ep->H b=none:=fun{b o es ep} e d=>by
   cases q:H b with
   |none=>rfl
   |some u =>
    have e':b=a:=hA b (by rw[q];simp);subst e';rw[ha]at e;cases e;have d':Data.seq vs.toArray _=Data.dict es ep:=d;cases d'
  have nsK:∀{b:Addr}{m:Str->Option Value},s₁.heap.Ns b m->(rH s₁.heap H).Ns b m:=fun{b m} ⟨o,es,ep,e,d,r⟩=>⟨o,es,ep,base_of e (noA e d),d,r⟩;have hKb:K.In (rH s₁.heap H):=fun b o e=>base_of (KX b o e) (by
   cases q:H b with
   |none=>rfl
   |some u =>
    have e':b=a:=hA b (by rw[q];simp);subst e';rw[hK (by rw[q];simp)]at e;cases e)
  have hM:Mod K mg (rH s₁.heap H):=⟨hKb,nsK hns,⟨mb,nsK hb,hbb⟩,let⟨mc,h1,h2⟩:=hlim;⟨mc,nsK h1,h2⟩⟩;have e0:vA P w K mg (rH s₁.heap H) ip [] s₁ H:=⟨rfl,hM,fun b o e=>AQ e,Nat.le_of_eq (xP _ _),trivial,fun b hb=>absurd (show b∈([]:Ze)from hb) (by simp),hok,.of_eq hg⟩;refine vF ((F _ hKb (nsK hns)).run ip [] s₁ H ⟨[.ref a],[]⟩ [.ref a] [.ref a] _ _ hr e0 (hbind s₁ (.ref a)) (.cons rfl .nil) (hsp H hO hS)) fun r s' h=>?_;cases r with
  |error e=>exact(hCX H e s' h).elim
  |ok fl =>
   cases fl with
   |next=>exact fu h
   |brk=>exact fu h
   |cont=>exact fu h
   |ret u =>
    obtain⟨v,H',os,bare,un,hok',r',q⟩:=h;have q':v=.bl true:=q;subst q';obtain rfl:u=Value.bool true:=r';refine⟨rfl,OldK.of_keep fun b o e=>?_,os,bare⟩;cases q:H b with
    |none=>exact un.keep b o e q (by intro z;exact absurd (show b∈([]:Ze)from z) (by simp)) (by simp)
    |some u =>
     rcases hO b with z|⟨ob,xs,z⟩
     ·rw[q]at z;cases z
     ·have z2:=un.frzs b ob _ z;obtain⟨e1,_⟩:=hok b _ z;obtain⟨e2,_⟩:=hok' b _ z2;rw[e]at e1;cases e1;exact e2
 cases hk:K.lookup a with
 |some o =>
  have e:=KX a o hk;rw[ha]at e;cases e;refine core (fun _=>none) (fun _=>.inl rfl) (.inr ⟨_,vs.toArray,_,hk,rfl,rfl,rfl,by rw[bD,lenV];exact hl,by simpa using rv⟩) (fun b u z=>by have z':(none:Option HO)=some u:=z;cases z') (fun b z=>absurd rfl z) fun z=>absurd rfl z
 |none =>
  refine core (fun b=>if b=a then some (.frz { cls:=.type "list",data:=.seq vs.toArray } (.lst (ns.map V.int)))else none) (fun b=>?_) (.inl (.inr ⟨{ cls:=.type "list",data:=.seq vs.toArray },if_pos rfl⟩)) (fun b u z=>?_) (fun b z=>?_) fun _=>hk
  ·by_cases hb:b=a
   ·exact .inr ⟨_,_,if_pos hb⟩
   ·exact .inl (if_neg hb)
  ·by_cases hb:b=a
   ·have z':=(if_pos hb).symm.trans z;cases z';subst hb;exact⟨ha,by rw[ap];exact hl,vs,_,rv,ha⟩
   ·have z':=(if_neg hb).symm.trans z;cases z'
  ·by_cases hb:b=a
   ·exact hb
   ·exact absurd (if_neg hb) z
end L2
namespace L2
open PySem PySem.Spec PyProof.Rows
theorem Ah{l:PySem.W.OpenLaw}{n k:Nat}{q:bj}{loose:Zb}{XP:(Str->Option Value)->Heap->Prop}{YP:World->Heap->Prop}{d:DefRec}{K:Params->Za}{CX:World->ym}{sp:World->Sp}{x:Str}
  (hn:l.most=some n) (hn2:n<=aj) (hdf:d.params.defaults=[]) (hr:dw k ip)
  (hY:∀(w:World) (h:Heap),YP w h->(K w.params).In h)
  (F:∀(w:World) (mg:Str->Option Value) (fa:Addr) (h:Heap),(K w.params).In h->h.Ns bh mg->mg d.name=some (.ref fa) ->
   ∃fd:hV,(∀(s:Shared) (u:Value),mU s fd ⟨[u],[]⟩ [(x,u)]) /\
    ∀base:Heap,(K w.params).In base->base.Ns bh mg->jg l.prog w (K w.params) mg base (CX w) k fa fd [x] (sp w))
  (hsp:∀(w:World) (H:Hp) (a:Addr) (ns:List Int),ns.length<=n->Be H->aA (K w.params) H a (ns.map V.int)->sp w [.ref a] H (fun v _=>v=.bl true) fun _ _ _=>False)
  (hCX:∀(w:World) (H:Hp) (s:Shared) (e:Value) (s':Shared),CX w [] H s (fun _ _ _=>False) e s'->False) :
  PySem.W.WalkO q loose XP YP l.row.toRowW d [] (fun f vs=>PySem.call f vs):=by
 refine Att.attach_call hn hdf fun w s₀ s₁ mg mb fa o pm cd doc a vs ns G Y ho hd hcd hmg hobj hints hlen hg=>?_;have KX:=hY w _ Y;obtain⟨fd,hb,hF⟩:=F w mg fa _ KX G.T.g hmg;exact zk KX G.T.g G.T.b G.T.builtins G.T.nolimit hg hobj hints (bF hlen hn2) hr hF hb (fun H hO hS=>hsp w H a ns hlen hO hS) fun H e s'=>hCX w H s₁ e s'
theorem walk_ofK{l:PySem.W.OpenLaw}{n k:Nat}{q:bj}{loose:Zb}{XP:(Str->Option Value)->Heap->Prop}{YP:World->Heap->Prop}{d:DefRec}{K:Params->Za}{CX:ym}{sp:Za->Sp}{x:Str}
  (hn:l.most=some n) (hn2:n<=aj) (hdf:d.params.defaults=[]) (hr:dw k ip)
  (hY:∀(w:World) (h:Heap),YP w h->(K w.params).In h)
  (F:∀(w:World) (mg:Str->Option Value) (fa:Addr) (h:Heap),(K w.params).In h->h.Ns bh mg->mg d.name=some (.ref fa) ->
   ∃fd:hV,(∀(s:Shared) (u:Value),mU s fd ⟨[u],[]⟩ [(x,u)]) /\
    ∀base:Heap,(K w.params).In base->base.Ns bh mg->jg l.prog w (K w.params) mg base CX k fa fd [x] (sp (K w.params)))
  (hsp:∀(K:Za) (H:Hp) (a:Addr) (ns:List Int),ns.length<=n->Be H->aA K H a (ns.map V.int)->sp K [.ref a] H (fun v _=>v=.bl true) fun _ _ _=>False)
  (hCX:∀(H:Hp) (s:Shared) (e:Value) (s':Shared),CX [] H s (fun _ _ _=>False) e s'->False) :
  PySem.W.WalkO q loose XP YP l.row.toRowW d [] (fun f vs=>PySem.call f vs) :=
 Ah (K:=K) (CX:=fun _=>CX) (sp:=fun w=>sp (K w.params)) hn hn2 hdf hr hY F (fun w H a ns h1 h2 h3=>hsp (K w.params) H a ns h1 h2 h3) fun _ H s e s'=>hCX H s e s'
end L2
namespace L2
open PySem PySem.Spec PyProof.Rows
def kq(s:Stmt)(j:Nat):Stmt:=match s with
 |.ClassDef _ _ _ body _ _ _ _ _ _ _=>body.getD j (.Pass ⟨0,0,0,0⟩)
 |_=>.Pass ⟨0,0,0,0⟩
def ff(s:Stmt):Arguments:=match s with
 |.FunctionDef _ a _ _ _ _ _ _ _ _=>a
 |_=>{ posonlyargs:=[],args:=[],vararg:=none,kwonlyargs:=[],kw_defaults:=[],kwarg:=none,defaults:=[] }
def dQ(s:Stmt):List Stmt:=match s with
 |.FunctionDef _ _ b _ _ _ _ _ _ _=>b
 |_=>[]
def bp(s:Stmt):Scope:=match s with
 |.FunctionDef _ _ _ _ _ _ sc _ _ _=>sc
 |_=>{ kind:=.function,names:=[],isGenerator:=false,isCoroutine:=false }
abbrev CX0:ym:=fun _ _ _ _ _ _=>False
abbrev E0:XK:=fun _ _ _=>False
abbrev aZ(sp:Sp)(a:TA):TE:=Bm sp [] E0 a
theorem y6{X:Cx}:lI CX0 X E0:=fun _ _ _ _ _ _ _ h=>h.elim
structure CQ(K:Za)(x qual:Str)(st:Stmt)(f:Addr)(fd:hV):Prop where
 ex:∃(oc:Value) (od:Option Addr) (kV doc pm:Value) (an:Option Addr) (cdv ct:Value) (osl:Array (Option Value)),
  fd=fy x qual (ff st) (dQ st) (bp st) .none kV doc pm an cdv ct/\K.lookup f=some ⟨oc,od,.func fd,osl⟩/\jx K cdv qual=true
 kp:e_ K (.ref f)=true
section
variable{P:bj}{w:World}{K:Za}{mg:Str->Option Value}{base:Heap}
theorem CQ.ok{x qual:Str}{st:Stmt}{f:Addr}{fd:hV}{N ps:Zb}{k:Nat}{sp:Sp}(F:CQ K x qual st f fd)(S:hC N ps (bp st))(len:∀vs H Q E,sp vs H Q E->vs.length=ps.length)
  (hbody:∀(cdv:Value) (A:Around) (outer:List Env) (s:Shared) (H:Hp) (vs:List V) (Q:VK) (E:XK),dw k (A.deeper (envOfC qual (bp st) s.heap.objs.size f cdv))->sp vs H Q E ->
   ∃t,t5 (vi CX0 P w K mg base N qual (bp st) f cdv A outer s H E).nox (dQ st) t/\t (cf Q) (start N vs) H):jg P w K mg base CX0 (k+1) f fd ps sp:=by
 obtain⟨oc,od,kV,doc,pm,an,cdv,ct,osl,rfl,lk,hcd⟩:=F.ex;refine Dl lk hcd S len fun A outer s H vs Q E hr hsp=>?_;obtain⟨t,h,q⟩:=hbody cdv A outer s H vs Q E hr hsp;exact⟨t,h.nox,q⟩
theorem CQ.binds{x qual:Str}{st:Stmt}{f:Addr}{fd:hV}{ps:Zb}(F:CQ K x qual st f fd)
  (h:∀(kV doc pm:Value) (an:Option Addr) (cdv ct:Value) (us:Zf),us.length=ps.length->bindArgs (fy x qual (ff st) (dQ st) (bp st) .none kV doc pm an cdv ct) ⟨us,[]⟩=pure (ps.zip us)):Binds K fd ps []:=by
 obtain⟨oc,od,kV,doc,pm,an,cdv,ct,osl,rfl,lk,hcd⟩:=F.ex;exact .all (h kV doc pm an cdv ct)
theorem zC{x qual:Str}{st:Stmt}{f:Addr}{oc:Value}{od an:Option Addr}{osl:Array (Option Value)}{kV doc pm cdv ct:Value}(l:K.lookup f=some ⟨oc,od,.func (fy x qual (ff st) (dQ st) (bp st) .none kV doc pm an cdv ct),osl⟩)
  (c:jx K cdv qual=true) (k:e_ K (.ref f)=true):CQ K x qual st f (fy x qual (ff st) (dQ st) (bp st) .none kV doc pm an cdv ct):=⟨⟨oc,od,kV,doc,pm,an,cdv,ct,osl,rfl,l,c⟩,k⟩
end
theorem ww{A:Around}{k:Nat}(hr:dw k A):A.units+16<cLine:=qz (Nat.add_le_add_left (by decide:16<=64) _) hr.units
theorem bc{n:Nat}(h:n<=1000):n<aj:=qz h (by decide)
section
variable{X:Cx}
theorem pv(i:Nat){x:Str}{pos:Pos}(hN:X.N[i]?=some x:=by rfl)(hv:Vis X.env.scope x:=by first|exact Or.inl rfl|exact Or.inr (Or.inl rfl)|exact Or.inr (Or.inr rfl))(hd:(x==("__debug__":Str))=false:=by decide)
  (hcd:(x==("__classdict__":Str))=false:=by decide):PE X (.Name x pos) (ja i):=B8 hN hv hd hcd
end
theorem bE{A B:Prop}(h:B):if false=true then A else B:=by
 rw[if_neg gw];exact h
theorem cQ{A B:Prop}(h:A):if true=true then A else B:=by
 rw[if_pos rfl];exact h
theorem pb{c A B:Prop}[Decidable c](h1:c->A)(h2:¬c->B):if c then A else B:=by
 by_cases h:c
 ·rw[if_pos h];exact h1 h
 ·rw[if_neg h];exact h2 h
def ae(H H':Hp):Prop:=∀b o,H b=some o->H' b=some o
theorem ae.refl(H:Hp):ae H H:=fun _ _ h=>h
theorem ae.trans{H H1 H2:Hp}(a:ae H H1)(b:ae H1 H2):ae H H2:=fun c o h=>b c o (a c o h)
theorem ae.free{H H':Hp}(e:ae H H'){l:Addr}(h:H' l=Option.none):H l=Option.none:=by
 cases q:H l with
 |none=>rfl
 |some o =>
  rw[e l o q]at h;cases h
theorem ae.seq{K:Za}{H H':Hp}{a:Addr}{xs:List V}(e:ae H H')(h:aA K H a xs):aA K H' a xs:=by
 rcases h with(h|⟨o,h⟩)|h
 ·exact .inl (.inl (e _ _ h))
 ·exact .inl (.inr ⟨o,e _ _ h⟩)
 ·exact .inr h
section
variable{prog:bj}{w:World}{A:Around}{R:Result->Shared->Prop}{s:Shared}
abbrev XF:Value->Shared->Prop:=fun _ _=>False
abbrev vb(ifs:List Expr)(env:Env):Sem Bool:=forIn ifs true fun c r=>if r=true then do let ok <- isTrue c env (eval c env);pure (qy ok)else pure (qy r)
theorem rX{elt target iter:Expr}{ifs:List Expr}{scope:Scope}{pos:Pos}{it acc:Value}{env:Env}(I:Nat->Shared->Prop)
  (turn:∀n s,I n s->wpAny (model prog w) A (pyNext it) (fun r s₁=>match r with
   |none=>R (.ok .next) s₁
   |some v=>wpAny (model prog w) A (vM target it v) (fun _ s₁'=>wpAny (model prog w) A (assign target env v) (fun _ s₂ =>
     wpAny (model prog w) A (vb ifs env) (fun ok s₃ =>
      if ok=true then wpAny (model prog w) A (eval elt env) (fun x s₄ =>
       wpAny (model prog w) A (call (.builtin "list.append") [acc,x]) (fun _ s₅=>∃m,m<n/\I m s₅) XF s₄) XF s₃
      else ∃m,m<n/\I m s₃) XF s₂) XF s₁') XF s₁) XF s)
  (n:Nat) (h:I n s):zzl76 (model prog w) A (.compLoop (.ListComp elt [⟨target,iter,ifs,0⟩] scope pos) 0 it acc env) R s:=by
 refine codeAny_loop rfl I (fun n s hI=>?_) n h;show wpAny _ A ((compTurn (.ListComp elt [⟨target,iter,ifs,0⟩] scope pos) 0 it acc env).onRaise (fun x=>do kS x env;theTreesLotGoes x)) _ _ s
 refine wpAny_noted ?_;rw[compTurn_list];refine am (vN (am (d4 (turn n s hI) (fun r s₁ h₁=>?_) fun _ _ h'=>h'.elim)));cases r with
 |none=>exact aW h₁
 |some v =>
  refine am (d4 h₁ (fun _ s₁' h₁'=>?_) fun _ _ h'=>h'.elim);refine am (d4 h₁' (fun _ s₂ h₂=>am (d4 h₂ (fun ok s₃ h₃=>?_) fun _ _ h'=>h'.elim)) fun _ _ h'=>h'.elim);cases ok with
  |false=>exact aW ⟨rfl,h₃⟩
  |true =>
   exact am (am (d4 h₃ (fun x s₄ h₄=>am (d4 h₄ (fun _ s₅ h₅=>aW (aW ⟨rfl,h₅⟩)) fun _ _ h'=>h'.elim)) fun _ _ h'=>h'.elim))
end
theorem jO{env:Env}:∀(names:List (Str×gu)) (cs0:List (Str×Addr)),(∀y∈names,y.2=.free->∃c,env.cells.lookup y.1=some c)->(∀x c,cs0.lookup x=some c->env.cells.lookup x=some c) ->
  ∃cs:List (Str×Addr),(forIn names cs0 fun(x:Str×gu) (r:List (Str×Addr))=>if(x.2==io)=true then(cellOf env x.1 >>= fun c=>(pure (qy ((x.1,c)::r)):Sem (ForInStep (List (Str×Addr)))))else pure (qy r))=pure cs /\
   (∀x c,cs.lookup x=some c->env.cells.lookup x=some c)/\(∀x,(cs0.lookup x).isSome=true->(cs.lookup x).isSome=true)/\∀y∈names,y.2=.free->(cs.lookup y.1).isSome=true
 |[],cs0,_,h0=>⟨cs0,rfl,h0,fun _ h=>h,fun _ h=>nomatch h⟩
 | (n,k)::r,cs0,has,h0=>by
  have hr:∀y∈r,y.2=.free->∃c,env.cells.lookup y.1=some c:=fun y hy=>has y (cg _ hy);by_cases hk:k=.free
  ·subst hk;obtain⟨c,hc⟩:=has (n,.free) bY rfl;obtain⟨cs,e,p1,p2,p3⟩:=jO r ((n,c)::cs0) hr (fun x d hd=>by
    rw[eT]at hd;cases hx:x==n with
    |true =>
     rw[hx]at hd;have:x=n:=by simpa using hx
     subst this;cases hd;exact hc
    |false=>rw[hx]at hd;exact h0 x d hd)
   have hself:(((n,c)::cs0).lookup n).isSome=true:=by rw[eT,beq_self_eq_true];rfl
   have hmono:∀x,(cs0.lookup x).isSome=true->(((n,c)::cs0).lookup x).isSome=true:=fun x hx=>by
    rw[eT];cases x==n with
    |true=>rfl
    |false=>exact hx
   refine⟨cs,?_,p1,fun x hx=>p2 x (hmono x hx),fun y hy hf=>?_⟩
   ·rw[nq];have hcell:cellOf env n=pure c:=by unfold cellOf;rw[hc]
    simp only[beq_self_eq_true,if_true,hcell];exact e
   ·rcases bg.mp hy with rfl|hy
    ·exact p2 _ hself
    ·exact p3 y hy hf
  ·obtain⟨cs,e,p1,p2,p3⟩:=jO r cs0 hr h0;refine⟨cs,?_,p1,p2,fun y hy hf=>?_⟩
   ·rw[nq];have hb:(k==io)=false:=by simpa using hk
    simp only[hb,sK,if_false];exact e
   ·rcases bg.mp hy with rfl|hy
    ·exact absurd hf hk
    ·exact p3 y hy hf
theorem oE{env:Env}{scope:Scope}(has:∀y∈scope.names,y.2=.free->∃c,env.cells.lookup y.1=some c):
  ∃cs:List (Str×Addr),closureFor scope env=pure cs/\(∀x c,cs.lookup x=some c->env.cells.lookup x=some c)/\∀y∈scope.names,y.2=.free->(cs.lookup y.1).isSome=true:=by
 obtain⟨cs,e,p1,_,p3⟩:=jO (env:=env) scope.names [] has (fun _ _ h=>nomatch h);refine⟨cs,?_,p1,p3⟩;unfold closureFor
 first
  |exact e
  | (simp only[bind_pure];exact e)
  | (rw[show(forIn scope.names [] _:Sem (List (Str×Addr)))=pure cs from e];rfl)
def cC(X:Cx)(N:Zb)(scope:Scope)(C:Addr)(cl:List (Str×Addr))(s₀:Shared)(H₀:Hp)(ex:Ze)(pn:Zd):Cx where
 prog:=X.prog
 w:=X.w
 K:=X.K
 mg:=X.mg
 base:=X.base
 A:=X.A
 N:=N
 s₀:=s₀
 H₀:=H₀
 env:=compEnvC scope cl C X.env
 outer:=X.stack
 stack:=X.stack
 ex:=ex
 fn:=fun _=>false
 calm:=X.calm
 pn:=pn
 xe:=XF
def i7(sc scope:Scope)(k:Nat)(N XN:Zb)(fi:List Nat):Bool :=
 decide (scope.kind=.function) &&
 (scope.names.all fun y=>decide (y.2≠.cell) && (decide (y.2≠.local) || decide (scope.names.lookup y.1=some .local)) && (decide (y.2≠.free) || decide (sc.names.lookup y.1=some .cell) || decide (sc.names.lookup y.1=some .free))) &&
 decide (N.length=k+fi.length) &&
 ((j1 fi.length).all fun j=>match fi[j]? with
  |some i=>match N[k+j]?,XN[i]? with
   |some x,some y=>decide (x=y) && decide (scope.names.lookup x=some .free)
   |_,_=>false
  |none=>false)
structure jV(sc scope:Scope)(k:Nat)(N XN:Zb)(fi:List Nat):Prop where
 kind:scope.kind=.function
 cell:∀y∈scope.names,y.2≠.cell
 nm:∀y∈scope.names,y.2=.local->scope.names.lookup y.1=some .local
 fr:∀y∈scope.names,y.2=.free->sc.names.lookup y.1=some .cell∨sc.names.lookup y.1=some .free
 len:N.length=k+fi.length
 sl:∀j i,fi[j]?=some i->∃x,N[k+j]?=some x/\XN[i]?=some x/\scope.names.lookup x=some .free
theorem jV.of{sc scope:Scope}{k:Nat}{N XN:Zb}{fi:List Nat}(h:i7 sc scope k N XN fi=true):jV sc scope k N XN fi:=by
 unfold i7 at h;simp only[gQ,List.all_eq_true,Bool.or_eq_true,decide_eq_true_eq]at h;obtain⟨⟨⟨h1,h2⟩,h3⟩,h4⟩:=h;refine⟨h1,fun y hy=>(h2 y hy).1.1,fun y hy e=>((h2 y hy).1.2).resolve_left fun z=>z e,fun y hy e=>?_,h3,fun j i e=>?_⟩
 ·rcases(h2 y hy).2 with(z|z)|z
  ·exact absurd e z
  ·exact .inl z
  ·exact .inr z
 ·have hj:j<fi.length:=(db.mp e).1;have q:=h4 j (List.mem_range.mpr hj);rw[e]at q;dsimp only at q;cases a:N[k+j]? with
  |none=>rw[a]at q;cases q
  |some x =>
   cases b:XN[i]? with
   |none=>rw[a,b]at q;cases q
   |some y =>
    rw[a,b]at q;simp only[gQ,decide_eq_true_eq]at q;exact⟨x,rfl,by rw[q.1],q.2⟩
theorem fe{env:Env}:∀{names:List (Str×gu)}{x:Str},names.lookup x=some .free ->
  (names.map fun(n,k)=>if(k==io && env.scope.kind==.function && env.kindOf n==some .cell)then(n,gu.cell)else(n,k)).lookup x=some .cell ∨
  (names.map fun(n,k)=>if(k==io && env.scope.kind==.function && env.kindOf n==some .cell)then(n,gu.cell)else(n,k)).lookup x=some .free
 |[],_,h=>by simp at h
 | (n,k)::r,x,h=>by
  have ih:=@fe env r x;simp only[aS];cases hx:x==n with
  |true =>
   simp only[eT,hx]at h;cases h;by_cases hc:(io==io && env.scope.kind==.function && env.kindOf n==some .cell)=true
   ·left;rw[if_pos hc];simp[eT,hx]
   ·right;rw[if_neg hc];simp[eT,hx]
  |false =>
   simp only[eT,hx]at h;by_cases hc:(k==io && env.scope.kind==.function && env.kindOf n==some .cell)=true
   ·rw[if_pos hc];simp only[eT,hx];exact ih h
   ·rw[if_neg hc];simp only[eT,hx];exact ih h
def cM(k:Nat)(fi:List Nat)(σ:St):St:=pk k none++fi.map fun i=>(σ[i]?).join
theorem vk(k:Nat)(fi:List Nat)(σ:St):(cM k fi σ).length=k+fi.length:=by simp[cM]
theorem oB{k:Nat}{fi:List Nat}{σ:St}{i:Nat}{v:V}(h:(cM k fi σ)[i]?=some (some v)):∃j t,i=k+j/\fi[j]?=some t/\σ[t]?=some (some v):=by
 unfold cM at h;by_cases hi:i<k
 ·rw[nD (by simpa using hi),List.getElem?_replicate_of_lt hi]at h;cases h
 ·rw[jy (by simp;omega),qG,cA]at h;refine⟨i-k,?_⟩;cases e:fi[i-k]? with
  |none=>rw[e]at h;cases h
  |some t =>
   rw[e]at h;simp only[nB]at h;refine⟨t,by omega,rfl,?_⟩;have h':=c7 h;cases e2:σ[t]? with
   |none=>rw[e2]at h';cases h'
   |some o=>rw[e2]at h';simp only[Option.join]at h';first|(rw[h'])|(subst h';rfl)|(simpa using h')
def t6(k:Nat)(g:TG):Prop:=∀x σ H Q,g x σ H Q->g x σ H fun σ2 H2=>Q σ2 H2/\σ2.length=σ.length/\∀i,k<=i->σ2[i]?=σ[i]?
def wT(k:Nat)(g:sw):Prop:=∀x σ H Q,g x σ H Q->g x σ H fun σ2 H2=>Q σ2 H2/\σ2.length=σ.length/\∀i,k<=i->σ2[i]?=σ[i]?
theorem bG{k i:Nat}(h:i<k):t6 k (cF i):=fun x σ H Q q=>⟨q,by simp,fun j hj=>by rw[vO (by omega)]⟩
theorem y8{k:Nat}:wT k ig:=fun x σ H Q ⟨e,q⟩=>⟨e,q,rfl,fun _ _=>rfl⟩
def z0(g:TG):Prop:=∀x σ H Q Q',(∀σ2 H2,Q σ2 H2->Q' σ2 H2)->g x σ H Q->g x σ H Q'
def sk(g:sw):Prop:=∀x σ H Q Q',(∀σ2 H2,Q σ2 H2->Q' σ2 H2)->g x σ H Q->g x σ H Q'
theorem lr{i:Nat}:z0 (cF i):=fun _ _ _ _ _ f q=>f _ _ q
theorem pT:sk ig:=fun _ _ _ _ _ f ⟨e,q⟩=>⟨e,f _ _ q⟩
theorem uX{g:TG}{u:sw}(h1:z0 g)(h2:sk u):sk (bq g u):=fun _ _ _ _ _ f ⟨v,r,e,q⟩=>⟨v,r,e,h1 _ _ _ _ _ (fun _ _ q=>h2 _ _ _ _ _ f q) q⟩
theorem pR{k:Nat}{g:TG}{u:sw}(h1:t6 k g)(m1:z0 g)(h2:wT k u)(m2:sk u):wT k (bq g u):=fun x σ H Q ⟨v,r,e,q⟩ =>
 ⟨v,r,e,m1 _ _ _ _ _ (fun σ2 H2 ⟨q,l,s⟩=>m2 _ _ _ _ _ (fun σ3 H3 ⟨q',l',s'⟩=>⟨q',l'.trans l,fun i hi=>(s' i hi).trans (s i hi)⟩) (h2 _ _ _ _ q)) (h1 _ _ _ _ q)⟩
theorem AN{K:Za}{k n:Nat}{t:sw}(h:wT k t):t6 k (iH K n t):=fun x σ H Q ⟨a,xs,e,hs,hl,q⟩=>⟨a,xs,e,hs,hl,h _ _ _ _ q⟩
def BG(X:Cx)(ifs:List Expr)(t:TT):Prop :=
 ∀(J3:Zd) (s:Shared) (σ:St) (H:Hp) (Q:Bool->Hp->Prop),Inv X J3 σ H s->t σ H Q->wpAny (model X.prog X.w) X.A (vb ifs X.env) (TP X J3 σ Q) X.xe s
def gS:TT:=fun _ H Q=>Q true H
theorem b_{X:Cx}:BG X [] gS:=fun J3 s σ H Q I h=>aW ⟨H,I,h⟩
theorem AF{X:Cx}{c:Expr}{t:TT}(h:PT X c t):BG X [c] t:=by
 intro J3 s σ H Q I hw;unfold vb;rw[nq];simp only[if_true];refine am (am (bV (h J3 s σ H Q I hw) fun b s1 q=>aW ?_));exact aW q
def c8(k:Nat)(fi:List Nat)(wi:TI)(g:TG)(tc:TT)(te:TE):TE:=fun σ H Q=>wi σ H fun J H1=>∀l,H1 l=none->∃W:Nat->Nat->List V->Hp->Prop,(∃m,W 0 m [] (upd H1 l (.lst [])))/\∀i m vs H2,W i m vs H2->H2 l=some (.lst vs) /\
 ((J.stop i H2/\Q (.ref l) H2)∨(J.go i H2/\∀x H3,J.yld i H2 x H3->g x (cM k fi σ) H3 fun σ2 H4=>tc σ2 H4 fun b H5 =>
  if b=true then te σ2 H5 fun v H6=>H6 l=some (.lst vs)/\vs.length<aj/\∃m',m'<m/\W (i+1) m' (vs++[v]) (upd H6 l (.lst (vs++[v])))else ∃m',m'<m/\W (i+1) m' vs H5))
section
variable{X:Cx}{J3:Zd}{σ:St}
theorem A_{k:Nat}{N:Zb}{scope:Scope}{fi:List Nat}{H:Hp}{s:Shared}{cl:List (Str×Addr)}{fp:Ze}(S:jV X.env.scope scope k N X.N fi)(I:Inv X J3 σ H s)
  (hcl:∀x c,cl.lookup x=some c->X.env.cells.lookup x=some c) (hcf:∀y∈scope.names,y.2=.free->(cl.lookup y.1).isSome=true) (hf:∀b∈fp,jU X J3 H b) (hlt:∀b∈fp,b<s.heap.objs.size) :
  (cC X N scope s.heap.objs.size cl s H fp (X.pn++J3)).Ok where
 mod:=I.ok.mod
 kind:=S.kind
 glob:=I.ok.glob
 blt:=I.ok.blt
 above:=aD _
 inj:=fun x y c e1 e2=>I.ok.inj x y c (hcl x c e1) (hcl y c e2)
 has:=fun x h=>by
  have key:∃y∈scope.names,y.1=x/\y.2=.free:=by
   have h':(relabel scope X.env).names.lookup x=some .cell∨(relabel scope X.env).names.lookup x=some .free:=h;have mem:∀(l:List (Str×gu)) (kd:gu),l.lookup x=some kd->(x,kd)∈l:=by
    intro l
    induction l with
    |nil=>intro kd e;cases e
    |cons a r ih =>
     intro kd e;obtain⟨n,k'⟩:=a;rw[eT]at e;cases hx:x==n with
     |true =>
      rw[hx]at e;have:x=n:=by simpa using hx
      subst this;cases e;exact bY
     |false=>rw[hx]at e;exact cg _ (ih kd e)
   have back:∀kd,(x,kd)∈(relabel scope X.env).names->kd=.cell∨kd=.free->∃y∈scope.names,y.1=x/\y.2=.free:=by
    intro kd hm hk;obtain⟨⟨n,k'⟩,hy,e⟩:=aU.mp hm;dsimp only at e;by_cases hc:(k'==io && X.env.scope.kind==.function && X.env.kindOf n==some .cell)=true
    ·have hk':k'=.free:=by
      simp only[gQ]at hc;simpa using hc.1.1
     rw[if_pos hc]at e;cases e;exact⟨_,hy,rfl,hk'⟩
    ·rw[if_neg hc]at e;cases e;rcases hk with rfl|rfl
     ·exact absurd rfl (S.cell _ hy)
     ·exact⟨_,hy,rfl,rfl⟩
   rcases h' with h'|h'
   ·exact back _ (mem _ _ h') (.inl rfl)
   ·exact back _ (mem _ _ h') (.inr rfl)
  obtain⟨y,hy,rfl,hk⟩:=key;exact vD.mp (hcf y hy hk)
 cab:=fun x c h=>by cases h
 hd:=I.ok.hd
 frames:=I.ok.frames
 stk:=.inl rfl
 exf:=fun b hb=>⟨bP (hlt b hb),fun x c e=>(hf b hb).2.2.2.2.1 x c (hcl x c e)⟩
 bs:=I.bs
 bsz:=bF I.ok.bsz I.sz
 noex:=fun b o e hb=>by
  rcases(hf b hb).2.2.2.1 with z|z
  ·exact I.ok.noex b o e z
  ·exact absurd (d5 (aE (I.ok.bs b o e).1) z) (lZ _)
 exfs:=fun b hb z=>by
  obtain⟨_,f1,f2,_⟩:=hf b hb;rcases bg.mp (I.stkSub b z)with q|q
  ·exact f1 q
  ·exact f2 q
 funs:=I.stack
 frf:=I.stkFree
theorem zU{k:Nat}{N:Zb}{scope:Scope}{fi:List Nat}{H:Hp}{s:Shared}{cl:List (Str×Addr)}{fp:Ze}{h₁:Heap}{t':Nat}{m:Str->Option Value}(S:jV X.env.scope scope k N X.N fi)(I:Inv X J3 σ H s)
  (hcl:∀x c,cl.lookup x=some c->X.env.cells.lookup x=some c) (hcf:∀y∈scope.names,y.2=.free->(cl.lookup y.1).isSome=true) (hf:∀b∈fp,jU X J3 H b) (hlt:∀b∈fp,b<s.heap.objs.size)
  (hn:h₁.Ns s.heap.objs.size m) (old:∀b o,s.heap.get? b=some o->h₁.get? b=some o) :
  Inv (cC X N scope s.heap.objs.size cl s H fp (X.pn++J3)) [] (cM k fi σ) H { s with heap:=h₁,toks:=t' }:=by
 have memOf:∀(l:List (Str×gu)) (x:Str) (kd:gu),l.lookup x=some kd->(x,kd)∈l:=by
  intro l
  induction l with
  |nil=>intro x kd e;cases e
  |cons a r ih =>
   intro x kd e;obtain⟨n,k'⟩:=a;rw[eT]at e;cases hx:x==n with
   |true =>
    rw[hx]at e;have:x=n:=by simpa using hx
    subst this;cases e;exact bY
   |false=>rw[hx]at e;exact cg _ (ih x kd e)
 refine⟨A_ S I hcl hcf hf hlt,rfl,I.bare,Un.kept old,⟨m,hn,fun i x v e1 e2 e3=>?_⟩,fun x c e=>?_,I.hok.fresh (aD _),fun x c e=>I.freeC x c (hcl x c e),fun p hp=>?_,I.hok.kept old,?_⟩
 ·obtain⟨j,t,rfl,ht,hv⟩:=oB e2;obtain⟨y,hy,hXN,hfr⟩:=S.sl j t ht;have e1':N[k+j]?=some x:=e1;rw[hy]at e1';cases e1';have hmem:=memOf _ _ _ hfr;obtain⟨c,hc⟩:=vD.mp (hcf _ hmem rfl);have hX:=hcl _ _ hc;obtain⟨mX,hnX,hlX⟩:=I.loc;have kX:=S.fr _ hmem rfl;obtain⟨u,ru,lk⟩:=hlX t x v hXN hv (by rcases kX with z|z;exact .inr (.inl z);exact .inr (.inr z));refine⟨u,ru,.inr ⟨?_,c,hc,?_⟩⟩
  ·exact fe hfr
  ·rcases lk with⟨z,_⟩|⟨_,c',e',q⟩
   ·have z':X.env.scope.names.lookup x=some .local:=z;rcases kX with kX|kX<;>rw[z']at kX<;>cases kX
   ·rw[hX]at e';cases e';obtain⟨o,ho,hd⟩:=q;exact⟨o,old _ o ho,hd⟩
 ·obtain⟨v,o,ho,hd⟩:=I.cell x c (hcl x c e);exact⟨v,o,old _ o ho,hd⟩
 ·rw[i9]at hp;obtain⟨e,n,ne,nf,d⟩:=I.pin p hp;refine⟨old _ _ e,n,bP (aE e),fun z=>?_,d⟩;rcases bg.mp (I.stkSub _ z)with q|q
  ·exact ne q
  ·exact nf q
 ·rw[vk];exact S.len.symm
structure ss(X:Cx)(J3:Zd)(H:Hp)(C:Addr):Prop where
 free:H C=none
 loc:C≠X.env.locals
 young:X.s₀.heap.objs.size<=C
 cells:∀x c,X.env.cells.lookup x=some c->c≠C
 pin:∀p∈X.pn++J3,p.1≠C
theorem oA{elt iter tg:Expr}{ifs:List Expr}{scope:Scope}{pos:Pos}{k:Nat}{N:Zb}{fi:List Nat}{cl:List (Str×Addr)}{g:TG}{tc:TT}{te:TE}{it:Addr}{fp:Ze}{tn:Nat->Heap->Prop}{J:It}{H2:Hp}{s2:Shared}{Q:VK}
  {E:Zc}{RR:Value->Addr->Result->Shared->Prop}
  (S:jV X.env.scope scope k N X.N fi) (hc:X.calm=true) (hcl:∀x c,cl.lookup x=some c->X.env.cells.lookup x=some c) (hcf:∀y∈scope.names,y.2=.free->(cl.lookup y.1).isSome=true)
  (hg:∀C cl s₀ H₀ ex pn,PG (cC X N scope C cl s₀ H₀ ex pn) tg g) (ho:t6 k g) (ht:∀C cl s₀ H₀ ex pn,BG (cC X N scope C cl s₀ H₀ ex pn) ifs tc) (he:∀C cl s₀ H₀ ex pn,PE (cC X N scope C cl s₀ H₀ ex pn) elt te)
  (I2:Inv X J3 σ H2 s2) (T:pf X.prog X.w X.K tg J fp it tn) (st2:tn 0 s2.heap) (f2:∀b∈fp,jU X J3 H2 b)
  (hw:∀l,H2 l=none->∃W:Nat->Nat->List V->Hp->Prop,(∃m,W 0 m [] (upd H2 l (.lst [])))/\∀i m vs H2,W i m vs H2->H2 l=some (.lst vs) /\
   ((J.stop i H2/\Q (.ref l) H2)∨(J.go i H2/\∀x H3,J.yld i H2 x H3->g x (cM k fi σ) H3 fun σ2 H4=>tc σ2 H4 fun b H5 =>
    if b=true then te σ2 H5 fun v H6=>H6 l=some (.lst vs)/\vs.length<aj/\∃m',m'<m/\W (i+1) m' (vs++[v]) (upd H6 l (.lst (vs++[v])))else ∃m',m'<m/\W (i+1) m' vs H5)))
  (hR:∀D C H' s' m',Inv X J3 σ H' s'->s'.heap.Ns C m'->ss X J3 H' C->Q (.ref D) H'->RR (.ref D) C (.ok .next) s') :
  wpAny (model X.prog X.w) X.A (newList []) (fun acc s₃=>wpAny (model X.prog X.w) X.A (newFunctionEnv scope X.env.globals cl [] X.env.qual none .none (some X.env)) (fun cenv s₄ =>
   zzl76 (model X.prog X.w) X.A (.compStart (.ListComp elt [⟨tg,iter,ifs,0⟩] scope pos) 0 (.ref it) acc { cenv with scope:=relabel scope X.env }) (RR acc cenv.locals) s₄) E s₃) E s2:=by
 have hfresh:H2 s2.heap.objs.size=none:=I2.fresh;obtain⟨W,⟨m0,w0⟩,turn⟩:=hw _ hfresh;refine qx (wpAny_newFunctionEnv S.cell (by intro y hy;simp at hy) (fun h₁ hns₁ hsb₁=>?_) S.kind);dsimp only at hns₁ hsb₁ ⊢;have I3:Inv X J3 σ (upd H2 s2.heap.objs.size (.lst [])) { s2 with heap:=s2.heap.push { cls:=.type "list",data:=.seq ([]:Zf).toArray },toks:=s2.toks }:=I2.lnew (ys:=[]) .nil (cy _);generalize hs3:({ s2 with heap:=s2.heap.push { cls:=.type "list",data:=.seq ([]:Zf).toArray },toks:=s2.toks }:Shared)=s3 at I3;have hh3:s3.heap=s2.heap.push { cls:=.type "list",data:=.seq ([]:Zf).toArray }:=by rw[<-hs3]
 have hsz:s3.heap.objs.size=s2.heap.objs.size+1:=by rw[hh3,lT]
 have hlt:∀b∈fp,b<s2.heap.objs.size:=fun b hb=>by
  obtain⟨o,e,_⟩:=T.obj 0 _ st2 b hb;exact aE e
 have f3:∀b∈fp,jU X J3 (upd H2 s2.heap.objs.size (.lst [])) b:=fun b hb=>⟨by rw[ai (bP (hlt b hb))];exact(f2 b hb).1,(f2 b hb).2⟩;have hlt3:∀b∈fp,b<s3.heap.objs.size:=fun b hb=>by rw[hsz];exact Nat.lt_succ_of_lt (hlt b hb)
 have old:∀b o,s3.heap.get? b=some o->h₁.get? b=some o:=fun b o e=>by
  have hb:b≠s3.heap.objs.size:=bP (aE e);rw[hh3]at e hb;exact hsb₁.extBut b o hb (aQ _ e)
 have hns:h₁.Ns s3.heap.objs.size (fun x=>([]:List (Str×Value)).reverse.lookup x):=by rw[hh3];exact hns₁
 have I4:Inv (cC X N scope s3.heap.objs.size cl s3 (upd H2 s2.heap.objs.size (.lst [])) fp (X.pn++J3)) [] (cM k fi σ) (upd H2 s2.heap.objs.size (.lst [])) { s3 with heap:=h₁,toks:=s2.toks+([]:List (Str×Value)).length } :=
  zU S I3 hcl hcf f3 hlt3 hns old
 have st4:tn 0 h₁:=T.keep _ _ _ st2 fun b hb o e=>old b o (by rw[hh3];exact aQ _ e);generalize hY:cC X N scope s3.heap.objs.size cl s3 (upd H2 s2.heap.objs.size (.lst [])) fp (X.pn++J3)=Y at I4;have yp:Y.prog=X.prog:=by rw[<-hY];rfl
 have yw:Y.w=X.w:=by rw[<-hY];rfl
 have yK:Y.K=X.K:=by rw[<-hY];rfl
 have yA:Y.A=X.A:=by rw[<-hY];rfl
 have yx:Y.xe=XF:=by rw[<-hY];rfl
 have yc:Y.calm=true:=by rw[<-hY];exact hc
 have gY:PG Y tg g:=by rw[<-hY];exact hg _ _ _ _ _ _
 have tY:BG Y ifs tc:=by rw[<-hY];exact ht _ _ _ _ _ _
 have eY:PE Y elt te:=by rw[<-hY];exact he _ _ _ _ _ _
 have yenv:Y.env=compEnvC scope cl s3.heap.objs.size X.env:=by rw[<-hY];rfl
 have fY:∀{H':Hp},(∀b∈fp,H' b=none)->∀b∈fp,jU Y [] H' b:=fun hn b hb=>by
  obtain⟨f0,f1,f2',f3',f4,f5⟩:=f3 b hb;rw[<-hY];refine⟨hn b hb,bP (hlt3 b hb),fun z=>?_,.inl hb,fun x c e=>f4 x c (hcl x c e),fun p hp=>?_⟩
  ·rcases bg.mp (I3.stkSub _ z)with q|q
   ·exact f1 q
   ·exact f2' q
  ·rw[i9]at hp;exact f5 p hp
 have loop:∀s4:Shared,s4={ s3 with heap:=h₁,toks:=s2.toks+([]:List (Str×Value)).length } ->
   zzl76 (model X.prog X.w) X.A (.compLoop (.ListComp elt [⟨tg,iter,ifs,0⟩] scope pos) 0 (.ref it) (.ref s2.heap.objs.size) Y.env) (RR (.ref s2.heap.objs.size) s3.heap.objs.size) s4:=by
  rintro s4 rfl;refine rX (fun n s'=>∃i vs H',Inv Y [] (cM k fi σ) H' s'/\tn i s'.heap/\(∀b∈fp,H' b=none)/\W i n vs H') ?_ m0 ⟨0,[],_,I4,st4,fun b hb=>(f3 b hb).1,w0⟩;rintro n s5 ⟨i,vs,H5,I5,st5,fr5,w5⟩;obtain⟨hl5,hcase⟩:=turn i n vs H5 w5;rcases hcase with⟨stop,q⟩|⟨go,step⟩
  ·have d:=T.done Y yp yw yK yc i [] s5 _ H5 XF I5 (fY fr5) st5 stop;rw[yA]at d;refine bV d fun r s6 ⟨hr,I6⟩=>?_;subst hr;have hu:Un (pc X.stack) fp (upd H2 s2.heap.objs.size (.lst [])) H5 s3.heap s6.heap:=by have:=I6.base;rw[<-hY]at this;exact this
   have ho6:s6.os=s3.os:=by have:=I6.os;rw[<-hY]at this;exact this
   have hok6:iL X.prog X.w X.K H5 s6.heap:=by have:=I6.hok;rw[<-hY]at this;exact this
   have hC6:H5 s3.heap.objs.size=none:=by have:=I6.free;rw[<-hY]at this;exact this
   obtain⟨m6,hn6,_⟩:=I6.loc;have hn6':s6.heap.Ns s3.heap.objs.size m6:=by rw[<-hY]at hn6;exact hn6
   have IX:Inv X J3 σ H5 s6:=I3.call' ho6 hu hok6 I6.bare fun b hb=>by
    obtain⟨f0,f1,f2',f3',f4,f5⟩:=f3 b hb;exact⟨f3',f1,f4,f5⟩
   refine hR _ _ H5 s6 m6 IX hn6' ⟨hC6,dZ I3.lt,I3.sz,fun x c e z=>?_,fun p hp z=>?_⟩ q
   ·obtain⟨v,o,ho,_⟩:=I3.cell x c e;exact absurd (aE ho) (by rw[z];exact lZ _)
   ·exact absurd (aE (I3.pin p hp).1) (by rw[z];exact lZ _)
  ·have d:=T.item Y yp yw yK yc i [] s5 _ H5 XF I5 (fY fr5) st5 go;rw[yA]at d;refine bV d fun r s6 ⟨u,hr,h6⟩=>?_;subst hr;refine bV h6 fun _ s7 ⟨x,H7,I7,r7,y7,st7,fr7⟩=>?_;have I7':=I7.pinned (fY fr7) (T.obj _ _ st7);have a7:=gY _ s7 _ H7 x u _ I7' r7 (ho _ _ _ _ (step x H7 y7));rw[yp,yw,yA,yx]at a7;refine bV a7 fun _ s8 ⟨σ8,H8,I8,q8,l8,k8⟩=>?_;have a8:=tY _ s8 σ8 H8 _ I8 q8;rw[yp,yw,yA,yx]at a8;have again:∀{H9:Hp}{s9:Shared}{vs':List V}{m':Nat},Inv Y ([]++nX fp s7.heap) σ8 H9 s9->m'<n->W (i+1) m' vs' H9->∃m,m<n/\∃i vs H',Inv Y [] (cM k fi σ) H' s9/\tn i s9.heap/\(∀b∈fp,H' b=none)/\W i m vs H':=fun{H9 s9 vs' m'} I9 hm w9=>by
    refine⟨m',hm,i+1,vs',H9,(I9.unpinned).weak l8.symm (fun j v e=>?_),T.keep _ _ _ st7 fun b hb o e=>(I9.pin (b,o) (fb _ (fb _ (g7 hb e)))).1,fun b hb=>?_,w9⟩
    ·obtain⟨j',t,rfl,_,_⟩:=oB e;rw[k8 _ (Nat.le_add_right _ _)];exact e
    ·obtain⟨o,e,_⟩:=T.obj _ _ st7 b hb;exact(I9.pin (b,o) (fb _ (fb _ (g7 hb e)))).2.1
   refine bV a8 fun b s9 ⟨H9,I9,q9⟩=>?_;cases b with
   |false =>
    rw[if_neg gw]at q9 ⊢;obtain⟨m',hm,w9⟩:=q9;exact again I9 hm w9
   |true =>
    rw[if_pos rfl]at q9 ⊢;have a9:=eY _ s9 σ8 H9 _ I9 q9;rw[yp,yw,yA,yx]at a9;refine bV a9 fun y s10 ⟨v,H10,I10,r10,hl10,hsz10,m',hm,w10⟩=>?_;have a10:=fo (X:=Y) _ s10 σ8 H10 (.ref s2.heap.objs.size) [v] (.ref s2.heap.objs.size) [y] (fun z H'=>z=.non/\H'=upd H10 s2.heap.objs.size (.lst (vs++[v]))) I10 rfl (.cons r10 .nil) ⟨_,vs,v,rfl,rfl,hl10,hsz10,rfl,rfl⟩;rw[yp,yw,yA,yx]at a10;refine bV a10 fun _ s11 ⟨_,H11,I11,_,_,e11⟩=>?_;subst e11;exact again I11 hm w10
 have hstart:=codeAny_compStart_list (prog:=X.prog) (w:=X.w) (A:=X.A) (elt:=elt) (target:=tg) (iter:=iter) (ifs:=ifs) (rest:=[]) (scope:=scope) (pos:=pos) (it:=.ref it) (acc:=.ref s2.heap.objs.size) (env:=Y.env) (loop _ rfl) (T.self _ 0 _ _ _ st4 (loop _ rfl));rw[yenv]at hstart;rw[<-hs3]at hstart;exact hstart
end
section
variable{X:Cx}
theorem ss.turned{J3:Zd}{σ:St}{H:Hp}{s:Shared}{C:Addr}{h':Heap}(c:ss X J3 H C)(I:Inv X J3 σ H s)(hs:gy C s.heap h'):Inv X J3 σ H { s with heap:=h' } :=
 I.turned (t':=s.toks) (fun b o hb e=>hs.extBut b o hb e) c.free c.loc (.inr c.young) c.cells c.pin
theorem AK{elt iter tg:Expr}{ifs:List Expr}{scope:Scope}{pos:Pos}{k:Nat}{N:Zb}{fi:List Nat}{wi:TI}{g:TG}{tc:TT}{te:TE}(hS:i7 X.env.scope scope k N X.N fi=true)(hc:X.calm=true)(hi:PI X tg iter wi)
  (hg:∀C cl s₀ H₀ ex pn,PG (cC X N scope C cl s₀ H₀ ex pn) tg g) (ho:t6 k g) (ht:∀C cl s₀ H₀ ex pn,BG (cC X N scope C cl s₀ H₀ ex pn) ifs tc) (he:∀C cl s₀ H₀ ex pn,PE (cC X N scope C cl s₀ H₀ ex pn) elt te)
  (hs:∀x,sI iter X.env x=pure x:=by intro _;rfl):PE X (.ListComp elt [⟨tg,iter,ifs,0⟩] scope pos) (c8 k fi wi g tc te):=by
 intro J3 s σ H Q I h;have S:=jV.of hS;obtain⟨cl,hclos,hcl,hcf⟩:=oE (env:=X.env) (scope:=scope) fun y hy e=>I.ok.has y.1 (S.fr y hy e);rw[eval_ListComp];refine wpAny_comprehension_free (use:=none) rfl hs hclos S.kind S.nm (bV (hi J3 s σ H _ I h) fun v s1 h1=>bV h1 fun itv s2 h2=>?_);obtain⟨it,fp,tn,J,H2,e,I2,T,st2,f2,hw⟩:=h2;subst e;refine oA (RR:=fun acc C=>compPost (model X.prog X.w) X.A X.xe none (EP X J3 σ Q) acc C) S hc hcl hcf hg ho ht he I2 T st2 f2 hw ?_;intro D C H' s' m' I' hn ce q;exact⟨m',hn,fun h' hs'=>⟨.ref D,H',ce.turned I' hs',rfl,q⟩⟩
theorem uS{elt iter tg:Expr}{ifs:List Expr}{scope:Scope}{pos spos py:Pos}{k:Nat}{N:Zb}{fi:List Nat}{wi:TI}{g:TG}{tc:TT}{te:TE}{j:Nat}{y:Str}(hN:X.N.Nodup)(hj:X.N[j]?=some y)(hy:Loc X.env.scope y)(hS:i7 X.env.scope scope k N X.N fi=true)(hc:X.calm=true)(hi:PI X tg iter wi)
  (hg:∀C cl s₀ H₀ ex pn,PG (cC X N scope C cl s₀ H₀ ex pn) tg g) (ho:t6 k g) (ht:∀C cl s₀ H₀ ex pn,BG (cC X N scope C cl s₀ H₀ ex pn) ifs tc) (he:∀C cl s₀ H₀ ex pn,PE (cC X N scope C cl s₀ H₀ ex pn) elt te)
  (hsw:mW (.ListComp elt [⟨tg,iter,ifs,0⟩] scope pos) (some (.Name y py)) spos.line X.env=pure true:=by rfl)
  (hs:∀x,sI iter X.env x=pure x:=by intro _;rfl) (hf:X.fn y=true∨X.env.scope.names.lookup y=some .local:=by first|exact .inl rfl|exact .inr rfl|assumption) :
  PS X (.Assign [.Name y py] (.ListComp elt [⟨tg,iter,ifs,0⟩] scope pos) spos) (aV (c8 k fi wi g tc te) (cF j)):=by
 intro J3 s σ H D I h;have S:=jV.of hS;obtain⟨cl,hclos,hcl,hcf⟩:=oE (env:=X.env) (scope:=scope) fun y hy e=>I.ok.has y.1 (S.fr y hy e);rw[exec_Assign_Name_used _ _ _ _ hsw];refine am (vN (am ?_));show wpAny _ X.A (do let _ <- comprehension (.ListComp elt [⟨tg,iter,ifs,0⟩] scope pos) scope X.env _ (newList []) false (eval iter X.env) (some (assign (.Name y py) X.env))) _ _ s
 refine am (d4 (wpAny_comprehension_free (use:=some (assign (.Name y py) X.env)) (Q:=fun _ s'=>SP X J3 D .next s') rfl hs hclos S.kind S.nm
  (bV (hi J3 s σ H _ I h) fun v s1 h1=>bV h1 fun itv s2 h2=>?_)) (fun _ s' hq=>aW (aW hq)) fun _ _ e=>e)
 obtain⟨it,fp,tn,J,H2,e,I2,T,st2,f2,hw⟩:=h2;subst e;refine oA (RR:=fun acc C=>compPost (model X.prog X.w) X.A X.xe (some (assign (.Name y py) X.env)) (fun _ s'=>SP X J3 D .next s') acc C) (Q:=fun x H1=>cF j x σ H1 D.nx) S hc hcl hcf hg ho ht he I2 T st2 f2 hw ?_;intro A C H' s' m' I' hn ce q;show wpAny _ X.A (assign (.Name y py) X.env (.ref A)) _ _ _;refine wpAny_assign_Name (pG I' hN hj hy (v:=.ref A) rfl (fun s'' I'' hsb=>?_) hf);obtain⟨a,hsa,ha⟩:=hsb;have hCa:C≠a:=by
  rcases ha with z|z
  ·rw[z];exact ce.loc
  ·exact cO (ce.cells y a z)
 refine⟨m',hn.sameBut hsa hCa,fun h' hs'=>?_⟩;exact⟨_,H',ce.turned I'' hs',q⟩
end
theorem Inv.turnedNew{X:Cx}{J3:Zd}{σ:St}{H:Hp}{s:Shared}{h2:Heap}{t':Nat}{ch:Ze}{o:HO}(I:Inv X J3 σ H s)(hf:∀b∈ch,jU X J3 H b)
  (k:∀b q,b∉ch->s.heap.get? b=some q->h2.get? b=some q) (hq:∃q,h2.get? s.heap.objs.size=some q) (hno:∀y,o≠.own y) (new:bS X.prog X.w X.K (upd H s.heap.objs.size o) h2 s.heap.objs.size o) :
  Inv X J3 σ (upd H s.heap.objs.size o) { s with heap:=h2,toks:=t' }:=by
 have hn0:H s.heap.objs.size=none:=I.fresh;have nsz:∀b q,s.heap.get? b=some q->b≠s.heap.objs.size:=fun b q e=>bP (aE e);have tr:∀b u,H b=some u->b∉ch:=fun b u e z=>by rw[(hf b z).1]at e;cases e
 refine I.step (g':=s.gens) (d':=s.drawn) (ch:=ch) (fun b hb=>?_) (fun b q _ _ hc e _=>k b q hc e) (fun b q _ _ hc e _=>⟨q.slots,k b q hc e⟩) (fun b q _ e n=>by rw[ai (nsz b q e)];exact n) (fun b q hc e=>⟨q,k b q hc e⟩)
  (fun b xs e=>by rw[ai (ah e hn0)];exact e) (fun b q u e=>by rw[ai (ah e hn0)];exact e) (fun b ps e=>⟨#[],by rw[ai (ah e hn0),e];simp⟩) (fun m hm=>?_) (fun b u e=>?_) I.bare
 ·obtain⟨f0,f1,f2,f3,f4,f5⟩:=hf b hb;exact⟨f3,f1,f4,f5⟩
 ·obtain⟨q,es,ep,ho,r⟩:=hm;exact⟨q,es,ep,k _ q (fun z=>(hf _ z).2.1 rfl) ho,r⟩
 ·by_cases hb:b=s.heap.objs.size
  ·subst hb;rw[aa]at e;cases e;exact new
  ·rw[ai hb]at e;refine(I.hok b u e).stay (fun c v hc q=>k c v ?_ q) (fun c q=>by rw[ai (ah q hn0)];exact q) fun c xs q=>by rw[ai (ah q hn0)];exact q
   rcases hc with z|z
   ·subst z;exact tr _ _ e
   ·exact tr _ _ z
def DB(K:Za)(a:Addr):It :=
 ⟨fun i H=>∃xs x,aA K H a xs/\xs[i]?=some x,fun i H x H'=>∃p v,x=.ref p/\H p=none/\(∀xs,aA K H a xs->xs[i]?=some v)/\H'=upd H p (.tup [.int i,v]),fun i H=>∃xs,aA K H a xs/\xs.length<=i⟩
theorem w6{P:bj}{w:World}{K:Za}{es:List Expr}{kx:Nat}{J8:Pos}(a e it:Addr)(hne:e≠it):
  pf P w K (.Tuple es kx J8) (DB K a) [e,it] e (fun i h=>(∃old,IsEnum h e it i old)/\h.IsListIter it a i) where
 mem:=by simp
 obj:=fun i h st b hb=>by
  obtain⟨⟨old,he⟩,o,ho,hc,hd⟩:=st;rcases bg.mp hb with z|z
  ·subst z;exact⟨_,he,fun v z=>by cases z⟩
  ·have z':b=it:=by simpa using z
   subst z';exact⟨o,ho,fun v z=>by rw[hd]at z;cases z⟩
 keep:=fun i h h' st k=>⟨let⟨old,he⟩:=st.1;⟨old,k e (by simp) _ he⟩,st.2.at fun o e=>k it (by simp) o e⟩
 item:=by
  intro X hP hw hK hc i J3 s σ H E I hf st hg;subst hP hw hK;obtain⟨⟨old,he⟩,hit⟩:=st;obtain⟨xs,x,hq,hx⟩:=hg;obtain⟨its,rv,p,hz⟩:=I.list hq;obtain⟨u,hu,ru⟩:=rv.get hx;obtain⟨e0,e1,e2,e3,e4,e5⟩:=hf e (by simp);obtain⟨f0,f1,f2,f3,f4,f5⟩:=hf it (by simp);refine wpAny_pyNext_enum_item he hit p.isList (x:=u) (by simpa using hu) hne fun h' ho' hit' ht' hsz' hk'=>?_;refine⟨_,rfl,wpAny_letOwnedTupleGo_enum (s:={ s with heap:=h',toks:=s.toks+1 }) ho' fun h2 he2 hs2=>?_⟩;have hs2':gy e h' h2:=hs2;have hpe:s.heap.objs.size≠e:=dZ (aE he);have ht2:h2.get? s.heap.objs.size=some { cls:=.type "tuple",data:=.seq #[.int i s.toks,u] }:=hs2'.extBut _ _ hpe ht';have hn0:H s.heap.objs.size=none:=I.fresh;have hue:upd H s.heap.objs.size (.tup [.int i,x]) e=none:=by rw[ai (cO hpe)];exact e0
  have hpi:s.heap.objs.size≠it:=by
   obtain⟨o,ho,_⟩:=hit;exact dZ (aE ho)
  have hui:upd H s.heap.objs.size (.tup [.int i,x]) it=none:=by rw[ai (cO hpi)];exact f0
  have I2:Inv X J3 σ (upd H s.heap.objs.size (.tup [.int i,x])) { s with heap:=h2,toks:=s.toks+1 }:=by
   refine I.turnedNew (ch:=[e,it]) hf (fun b o hb q=>?_) ⟨_,ht2⟩ (fun _ z=>nomatch z) ⟨by show 2<=aj;decide,[.int i s.toks,u],.cons ⟨_,rfl⟩ (.cons ru .nil),⟨_,ht2,rfl,_,rfl⟩⟩;have nb1:b≠e:=fun z=>hb (by simp[z]);have nb2:b≠it:=fun z=>hb (by simp[z]);exact hs2'.extBut _ _ nb1 (hk' b o nb1 nb2 q)
  refine⟨.ref s.heap.objs.size,_,I2,rfl,⟨_,x,rfl,hn0,fun ys hy=>by rw[I.list_inj hy hq];exact hx,rfl⟩,⟨⟨u,by simpa using he2⟩,hit'.at fun o y=>(hs2'.2 it (cO hne)).trans y⟩,fun b hb=>?_⟩;rcases bg.mp hb with z|z
  ·subst z;exact hue
  ·have z':b=it:=by simpa using z
   subst z';exact hui
 done:=by
  intro X hP hw hK hc i J3 s σ H E I hf st hg;subst hP hw hK;obtain⟨⟨old,he⟩,hit⟩:=st;obtain⟨xs,hq,hx⟩:=hg;obtain⟨its,rv,p,hz⟩:=I.list hq;obtain⟨f0,f1,f2,f3,f4,f5⟩:=hf it (by simp);have hl:=rv.length;exact wpAny_pyNext_enum_end (I.ok.hd hc) he hit p.isList (by simp;omega) fun h' eb=>⟨rfl,I.turned (t':=s.toks) (fun b o hb e=>eb b o hb e) f0 f1 f3 f4 f5⟩
 self:=fun _ _ _ _ _ st h=>let⟨_,he⟩:=st.1;wpAny_pyIter_enum he h
section
variable{X:Cx}{p pos:Pos}{es:List Expr}{kx:Nat}{J8:Pos}
def oj(K:Za)(ta:TA):TI:=fun σ H R=>ta σ H fun vs H1=>∃a,vs=[.ref a]/\(∃xs,aA K H1 a xs)/\R (DB K a) H1
theorem i4{a:Expr}{ta:TA}(hg:Gl X "enumerate")(hm:X.mg "enumerate"=none)(ha:PA X [a] ta)(hs:aG [a] X.env=[(false,eval a X.env)]:=by rfl):PI X (.Tuple es kx J8) (.Call (.Name "enumerate" p) [a] [] pos) (oj X.K ta):=by
 intro J3 s σ H R I h;refine Call_ (lB I hg hm boot_enumerate (vJ (bV (ha pos J3 s σ H _ I h) fun us s1 ⟨vs,H1,I1,r1,q1⟩=>?_) hs rfl));obtain⟨l,e,⟨xs,hq⟩,q⟩:=q1;subst e;obtain⟨u,rfl,ru⟩:=vals1 r1;cases ru;obtain⟨its,rv,pl,hz⟩:=I1.list hq;refine call_enumerate_list pl.isList fun h' he hit hsz hk=>?_;refine wpAny_pyIter_enum (s:={ s1 with heap:=h' }) he ?_;have hk':∀b o,s1.heap.get? b=some o->h'.get? b=some o:=hk;have I2:Inv X J3 σ H1 { s1 with heap:=h' }:=I1.kept (t':=s1.toks) hk';refine⟨_,[s1.heap.objs.size+1,s1.heap.objs.size],_,_,H1,rfl,I2,w6 l _ _ (Nat.succ_ne_self _),⟨⟨_,he⟩,hit⟩,fun b hb=>?_,q⟩;have hb':s1.heap.objs.size<=b:=by
  rcases bg.mp hb with z|z
  ·rw[z];exact Nat.le_succ _
  ·have z':b=s1.heap.objs.size:=by simpa using z
   rw[z'];exact aD _
 exact I1.fpOk hb' (I1.hok.fresh hb')
end
def DS(x:Str):It:=⟨fun i _=>i<x.cps.size,fun i H y H'=>H'=H/\∃c,x.cps[i]?=some c/\y=.str ⟨#[c]⟩,fun i _=>x.cps.size<=i⟩
theorem uj{P:bj}{w:World}{K:Za}{tg:Expr}(x:Str)(t:Tok)(it:Addr):pf P w K tg (DS x) [it] it (fun i h=>h.IsStrIter it "str_ascii_iterator" x t i) where
 mem:=by simp
 obj:=fun i h st b hb=>by
  have e:b=it:=by simpa using hb
  subst e;obtain⟨o,e,c,d⟩:=st;exact⟨o,e,fun v z=>by rw[d]at z;cases z⟩
 keep:=fun i h h' st k=>by
  obtain⟨o,e,c,d⟩:=st;exact⟨o,k it (by simp) o e,c,d⟩
 item:=by
  intro X hP hw hK hc i J3 s σ H E I hf st hg;subst hP hw hK;have hlt:i<x.cps.size:=hg;obtain⟨f0,f1,f2,f3,f4,f5⟩:=hf it (by simp);have hx:x.cps[i]?=some x.cps[i]:=by simp[hlt]
  refine wpAny_pyNext_ascii_item st hx fun h' st' sb=>?_;have I1:Inv X J3 σ H { s with heap:=h',toks:=s.toks+1 }:=I.turned (t':=s.toks+1) (fun b o hb e=>(sb.2 b hb).trans e) f0 f1 f3 f4 f5;obtain⟨o,e,c,d⟩:=id st';exact⟨_,rfl,tN (s:={ s with heap:=h',toks:=s.toks+1 }) e c d (by decide) ⟨.str ⟨#[x.cps[i]]⟩,H,I1,⟨_,rfl⟩,⟨rfl,_,hx,rfl⟩,st',fun b hb=>(hf b hb).1⟩⟩
 done:=by
  intro X hP hw hK hc i J3 s σ H E I hf st hg;subst hP hw hK;have hge:x.cps.size<=i:=hg;obtain⟨f0,f1,f2,f3,f4,f5⟩:=hf it (by simp);exact wpAny_pyNext_ascii_end (I.ok.hd hc) st (by simp;omega) fun h' eb=>⟨rfl,I.turned (t':=s.toks) (fun b o hb e=>eb b o hb e) f0 f1 f3 f4 f5⟩
 self:=fun _ _ _ _ _ st h=>wpAny_pyIter_striter_ascii st h
theorem wZ{P:bj}{w:World}{K:Za}{tg:Expr}(x:Str)(t:Tok)(it:Addr):pf P w K tg (DS x) [it] it (fun i h=>h.IsStrIter it "str_iterator" x t i) where
 mem:=by simp
 obj:=fun i h st b hb=>by
  have e:b=it:=by simpa using hb
  subst e;obtain⟨o,e,c,d⟩:=st;exact⟨o,e,fun v z=>by rw[d]at z;cases z⟩
 keep:=fun i h h' st k=>by
  obtain⟨o,e,c,d⟩:=st;exact⟨o,k it (by simp) o e,c,d⟩
 item:=by
  intro X hP hw hK hc i J3 s σ H E I hf st hg;subst hP hw hK;have hlt:i<x.cps.size:=hg;obtain⟨f0,f1,f2,f3,f4,f5⟩:=hf it (by simp);have hx:x.cps[i]?=some x.cps[i]:=by simp[hlt]
  refine wpAny_pyNext_wide_item st hx fun h' st' sb=>?_;have I1:Inv X J3 σ H { s with heap:=h',toks:=s.toks+1 }:=I.turned (t':=s.toks+1) (fun b o hb e=>(sb.2 b hb).trans e) f0 f1 f3 f4 f5;obtain⟨o,e,c,d⟩:=id st';exact⟨_,rfl,tN (s:={ s with heap:=h',toks:=s.toks+1 }) e c d (by decide) ⟨.str ⟨#[x.cps[i]]⟩,H,I1,⟨_,rfl⟩,⟨rfl,_,hx,rfl⟩,st',fun b hb=>(hf b hb).1⟩⟩
 done:=by
  intro X hP hw hK hc i J3 s σ H E I hf st hg;subst hP hw hK;have hge:x.cps.size<=i:=hg;obtain⟨f0,f1,f2,f3,f4,f5⟩:=hf it (by simp);exact wpAny_pyNext_wide_end (I.ok.hd hc) st (by simp;omega) fun h' eb=>⟨rfl,I.turned (t':=s.toks) (fun b o hb e=>eb b o hb e) f0 f1 f3 f4 f5⟩
 self:=fun _ _ _ _ _ st h=>wpAny_pyIter_striter_wide st h
section
variable{X:Cx}{p pos:Pos}{tg:Expr}
def Di(tl:TE):TI:=fun σ H R=>tl σ H fun v H1=>∃x,v=.str x/\R (DS x) H1
theorem B4{l:Expr}{tl:TE}(hl:PE X l tl):PI X tg l (Di tl):=by
 intro J3 s σ H R I h;refine bV (hl J3 s σ H _ I h) fun v s1 ⟨y,H1,I1,r1,q1⟩=>?_;obtain⟨x,e,q⟩:=q1;subst e;obtain⟨t,rfl⟩:=r1;have fin:∀b∈[s1.heap.objs.size],jU X J3 H1 b:=fun b hb=>by
  have e:b=s1.heap.objs.size:=by simpa using hb
  subst e;exact I1.fpOk (aD _) (I1.hok.fresh (aD _))
 cases ha:x.cps.all (·<128)
 ·refine wpAny_pyIter_wide ha ?_;exact⟨s1.heap.objs.size,[s1.heap.objs.size],_,_,H1,rfl,I1.kept (t':=s1.toks) fun b o e=>aQ _ e,wZ x t _,⟨_,cz _ rfl,rfl,rfl⟩,fin,q⟩
 ·refine wpAny_pyIter_ascii ha ?_;exact⟨s1.heap.objs.size,[s1.heap.objs.size],_,_,H1,rfl,I1.kept (t':=s1.toks) fun b o e=>aQ _ e,uj x t _,⟨_,cz _ rfl,rfl,rfl⟩,fin,q⟩
end
def Itz(K:Za)(a b:Addr):It :=
  ⟨fun i H=>∃xs ys x y,aA K H a xs/\aA K H b ys/\xs[i]?=some x/\ys[i]?=some y,
   fun i H x H'=>∃p u v,x=.ref p/\H p=none/\(∀xs,aA K H a xs->xs[i]?=some u)/\(∀ys,aA K H b ys->ys[i]?=some v)/\H'=upd H p (.tup [u,v]),
   fun i H=>∃xs ys,aA K H a xs/\aA K H b ys/\(xs.length<=i∨ys.length<=i)⟩
theorem yu{P:bj}{w:World}{K:Za}{es:List Expr}{kx:Nat}{J8:Pos}(a b z TI TO i1 i2:Addr)(D:kR z TI TO i1 i2 a b):
  pf P w K (.Tuple es kx J8) (Itz K a b) [z,TI,TO,i1,i2] z (fun i h=>IsZip h z TI TO .none/\IsPair h TI (.ref i1) (.ref i2)/\(∃a b,IsPair h TO a b)/\h.IsListIter i1 a i/\h.IsListIter i2 b i) where
 mem:=by simp
 obj:=fun i h st c hc=>by
  obtain⟨hz,hTI,⟨u,v,hTO⟩,h1,h2⟩:=st;simp only[bg,gj,or_false]at hc;rcases hc with rfl|rfl|rfl|rfl|rfl
  ·exact⟨_,hz,fun v z=>by cases z⟩
  ·exact⟨_,hTI,fun v z=>by cases z⟩
  ·exact⟨_,hTO,fun v z=>by cases z⟩
  ·obtain⟨o,e,c,d⟩:=h1;exact⟨o,e,fun v z=>by rw[d]at z;cases z⟩
  ·obtain⟨o,e,c,d⟩:=h2;exact⟨o,e,fun v z=>by rw[d]at z;cases z⟩
 keep:=fun i h h' st k=>by
  obtain⟨hz,hTI,⟨u,v,hTO⟩,h1,h2⟩:=st;exact⟨k z (by simp) _ hz,k TI (by simp) _ hTI,⟨u,v,k TO (by simp) _ hTO⟩,h1.at fun o e=>k i1 (by simp) o e,h2.at fun o e=>k i2 (by simp) o e⟩
 item:=by
  intro X hP hw hK hc i J3 s σ H E I hf st hg;subst hP hw hK;obtain⟨hz,hTI,⟨u0,v0,hTO⟩,h1,h2⟩:=st;obtain⟨xs,ys,x,y,hqx,hqy,hx,hy⟩:=hg;obtain⟨its,rx,px,zx⟩:=I.list hqx;obtain⟨jts,ry,py,zy⟩:=I.list hqy;obtain⟨u,hu,ru⟩:=rx.get hx;obtain⟨v,hv,rv⟩:=ry.get hy;refine wpAny_pyNext_zip_item D hz hTI hTO h1 h2 px.isList py.isList (x:=u) (y:=v) (by simpa using hu) (by simpa using hv) fun h' a1 a2 a3 a4 a5 a6 hk=>?_;refine⟨_,rfl,wpAny_letOwnedTupleGo_zip (s:={ s with heap:=h' }) a1 fun h2' hz2 hs2=>?_⟩;have hs2':gy z h' h2':=hs2;have nsz:s.heap.objs.size≠z:=dZ (aE hz);have nsTO:s.heap.objs.size≠TO:=dZ (aE hTO);have nsTI:s.heap.objs.size≠TI:=dZ (aE hTI);have nsi1:s.heap.objs.size≠i1:=by obtain⟨o,ho,_⟩:=h1;exact dZ (aE ho)
  have nsi2:s.heap.objs.size≠i2:=by obtain⟨o,ho,_⟩:=h2;exact dZ (aE ho)
  have ht2:IsPair h2' s.heap.objs.size u v:=hs2'.extBut _ _ nsz a5;have I2:Inv X J3 σ (upd H s.heap.objs.size (.tup [x,y])) { s with heap:=h2',toks:=s.toks }:=by
   refine I.turnedNew (ch:=[z,TI,TO,i1,i2]) hf (fun c o hc q=>?_) ⟨_,ht2⟩ (fun _ z=>nomatch z) ⟨by show 2<=aj;decide,[u,v],.cons ru (.cons rv .nil),⟨_,ht2,rfl,_,rfl⟩⟩;have n1:c≠z:=fun q=>hc (by simp[q]);exact hs2'.extBut _ _ n1 (hk c o n1 (fun q=>hc (by simp[q])) (fun q=>hc (by simp[q])) (fun q=>hc (by simp[q])) q)
  refine⟨.ref s.heap.objs.size,_,I2,rfl,⟨_,x,y,rfl,I.fresh,fun zs hz=>by rw[I.list_inj hz hqx];exact hx,fun zs hz=>by rw[I.list_inj hz hqy];exact hy,rfl⟩,⟨hz2,hs2'.extBut _ _ D.TIz (hk _ _ D.TIz D.TITO D.TIi1 D.TIi2 hTI),⟨_,_,hs2'.extBut _ _ D.TOz a2⟩,a3.at fun o e=>hs2'.extBut _ _ D.i1z e,a4.at fun o e=>hs2'.extBut _ _ D.i2z e⟩,fun c hc=>?_⟩;have hcn:=(hf c hc).1;simp only[bg,gj,or_false]at hc;have ne:c≠s.heap.objs.size:=by
   rcases hc with rfl|rfl|rfl|rfl|rfl
   ·exact nsz.symm
   ·exact nsTI.symm
   ·exact nsTO.symm
   ·exact nsi1.symm
   ·exact nsi2.symm
  rw[ai ne];exact hcn
 done:=by
  intro X hP hw hK hc i J3 s σ H E I hf st hg;subst hP hw hK;obtain⟨hz,hTI,⟨u0,v0,hTO⟩,h1,h2⟩:=st;obtain⟨xs,ys,hqx,hqy,hend⟩:=hg;obtain⟨its,rx,px,zx⟩:=I.list hqx;obtain⟨jts,ry,py,zy⟩:=I.list hqy;have lx:=rx.length;have ly:=ry.length;refine wpAny_pyNext_zip_end (I.ok.hd hc) D hz hTI hTO h1 h2 px.isList py.isList (by rcases hend with q|q;exact .inl (by simp;omega);exact .inr (by simp;omega)) fun h' hk=>⟨rfl,?_⟩;have tr:∀c q,H c=some q->c∉[z,TI,TO,i1,i2]:=fun c q e m=>by rw[(hf c m).1]at e;cases e
  have kk:∀c o,c∉[z,TI,TO,i1,i2]->s.heap.get? c=some o->h'.get? c=some o:=fun c o hc q=>hk c o (fun q=>hc (by simp[q])) (fun q=>hc (by simp[q])) (fun q=>hc (by simp[q])) (fun q=>hc (by simp[q])) q;refine I.step (g':=s.gens) (d':=s.drawn) (t':=s.toks) (ch:=[z,TI,TO,i1,i2]) (fun c hc=>?_) (fun c o _ _ hc e _=>kk c o hc e) (fun c o _ _ hc e _=>⟨o.slots,kk c o hc e⟩) (fun _ _ _ _ n=>n) (fun c o hc e=>⟨o,kk c o hc e⟩) (fun _ _ e=>e) (fun _ _ _ e=>e) (fun c ps e=>⟨#[],by rw[e];simp⟩) (fun m hm=>?_) (fun c q e=>?_) I.bare
  ·obtain⟨f0,f1,f2,f3,f4,f5⟩:=hf c hc;exact⟨f3,f1,f4,f5⟩
  ·obtain⟨q,es',ep,ho,r⟩:=hm;exact⟨q,es',ep,kk _ q (fun z=>(hf _ z).2.1 rfl) ho,r⟩
  ·refine(I.hok c q e).stay (fun d v hd q'=>kk d v ?_ q') (fun _ q=>q) fun _ _ q=>q;rcases hd with z|z
   ·subst z;exact tr _ _ e
   ·exact tr _ _ z
 self:=fun _ _ _ _ _ st h=>qw st.1 h
section
variable{prog:bj}{w:World}{A:Around}{E:Zc}{s:Shared}
theorem g0{it t:Addr}{i:Nat}{items:Array Value}{x:Value}{Q:Zc}(st:s.heap.IsTupleIter it t i)(tt:s.heap.IsTuple t items)(hx:items[i]?=some x)
  (k:∀h',h'.IsTupleIter it t (i+1)->gy it s.heap h'->Q x { s with heap:=h' }):wpAny (model prog w) A (il (.ref it)) Q E s:=by
 obtain⟨oi,gi,ci,di⟩:=id st;obtain⟨ot,gt,_,nt,dt⟩:=tt;unfold il;refine am (qv (name:=qt "__next__") st.typeIs qr
  (wW qr st.typeIs F.entry_tuple_iterator_next ?_ (F.args_tuple_iterator_next_1 _)))
 show wpAny _ _ (field (.ref it) 0 >>= _) _ _ s;refine am (cr gi di (x:=.ref t) rfl ?_);show wpAny _ _ (if(Value.ref t==Value.none)=true then _ else _) _ _ s
 rw[if_neg (show ¬((Value.ref t==Value.none)=true)from gw)];show wpAny _ _ (field (.ref it) 1 >>= _) _ _ s;refine am (cr gi di (x:=.int i 0) rfl ?_);show wpAny _ _ (seqItems? (.ref t) >>= _) _ _ s;refine am (jh gt dt ?_);simp only[kW,hx];refine am (kQ gi di (by simp) (aW ⟨x,rfl,aW (k _ ?_ (nn ..))⟩));exact⟨_,jv _ gi (nk (ik di _)),(Obj.cls_mapFields ..).trans ci,by
  rw[ik di];simp[rawInt]⟩
theorem l_{it t:Addr}{i:Nat}{items:Array Value}{Q:Zc}(hh:A.handled=none)(st:s.heap.IsTupleIter it t i)(tt:s.heap.IsTuple t items)(hx:items[i]?=none)
  (k:∀h' e,Heap.ExtBut it s.heap h'->(∃o,h'.get? e=some o/\o.cls=.type "StopIteration")->E (.ref e) { s with heap:=h' }):wpAny (model prog w) A (il (.ref it)) Q E s:=by
 obtain⟨oi,gi,ci,di⟩:=id st;obtain⟨ot,gt,_,nt,dt⟩:=tt;unfold il;refine am (qv (name:=qt "__next__") st.typeIs qr
  (wW qr st.typeIs F.entry_tuple_iterator_next ?_ (F.args_tuple_iterator_next_1 _)))
 show wpAny _ _ (field (.ref it) 0 >>= _) _ _ s;refine am (cr gi di (x:=.ref t) rfl ?_);show wpAny _ _ (if(Value.ref t==Value.none)=true then _ else _) _ _ s
 rw[if_neg (show ¬((Value.ref t==Value.none)=true)from gw)];show wpAny _ _ (field (.ref it) 1 >>= _) _ _ s;refine am (cr gi di (x:=.int i 0) rfl ?_);show wpAny _ _ (seqItems? (.ref t) >>= _) _ _ s;refine am (jh gt dt ?_);simp only[kW,hx];refine am (l7 (am (kQ gi di (by simp) ?_)));show wpAny _ _ (newExc (.type "StopIteration") [] >>= _) _ _ _;refine am ?_;simp only[newExc,newTuple];refine am (qx ?_ (by size_fits));refine am (m:=firstArgMember _ _) (wpAny_of_eq (a:=Value.none) (by first|rfl|(simp only[firstArgMember];rfl)) ?_)
 refine qx ?_ (by size_fits);simp only[raiseNew];refine am (wpAny_handled ?_)
 first|rw[show A.in1.handled=none from hh] | rw[hh]
 refine am (aW (wpAny_throw ?_));exact k _ _ (((nn ..).extBut.push _).push _) ⟨_,cz _ rfl,rfl⟩
theorem wX{z TI TO i1 i2 l1 l2:Addr}{k1 k2:Nat}{xs ys:Array Value}{x y a b:Value}{Q:Zc}(D:kR z TI TO i1 i2 l1 l2)
  (gz:IsZip s.heap z TI TO .none) (gI:IsPair s.heap TI (.ref i1) (.ref i2)) (gO:IsPair s.heap TO a b)
  (g1:s.heap.IsTupleIter i1 l1 k1) (g2:s.heap.IsTupleIter i2 l2 k2) (t1:s.heap.IsTuple l1 xs) (t2:s.heap.IsTuple l2 ys) (hx:xs[k1]?=some x) (hy:ys[k2]?=some y)
  (k:∀h',IsZip h' z TI TO (rawInt s.heap.objs.size)->IsPair h' TO x y->h'.IsTupleIter i1 l1 (k1+1)->h'.IsTupleIter i2 l2 (k2+1)->IsPair h' s.heap.objs.size x y->h'.objs.size=s.heap.objs.size+1 ->
   (∀c o,c≠z->c≠TO->c≠i1->c≠i2->s.heap.get? c=some o->h'.get? c=some o)->Q (.ref s.heap.objs.size) { s with heap:=h' }) :
  wpAny (model prog w) A (cD.«zip.__next__» ⟨[.ref z],[]⟩) (fun fin s'=>∃v,fin=.done (.ret v)/\Q v s') E s:=by
 show wpAny _ _ (field (.ref z) 2 >>= _) _ _ _;refine am (cr gz rfl (x:=.bool false) rfl ?_);show wpAny _ _ (field (.ref z) 3 >>= _) _ _ _;refine am (cr gz rfl (x:=.ref TI) rfl ?_);refine am (jh gI rfl ?_);show wpAny _ _ (qq (.ref z) >>= _) _ _ _;refine am ?_;unfold qq;refine am (cr gz rfl (x:=.none) rfl (aW ?_));simp only[if_true];refine am (l7 ?_);refine am (cr gz rfl (x:=.ref TO) rfl ?_);refine am (kP gz (by simp) fun m₁ gz₁ u₁=>?_)
 replace gz₁:IsZip m₁ z TI TO .ellipsis:=gz₁
 refine am ?_;simp only[List.zipIdx_cons,List.zipIdx_nil,nq,List.forIn_nil];refine am (am (qp ?_));show wpAny _ _ (il (.ref i1) >>= _) _ _ _;refine am (g0 (g1.extBut u₁.extBut D.i1z) (t1.extBut u₁.extBut D.l1z) hx fun m₂ g1₂ u₂=>aW ?_);have gO₂:IsPair m₂ TO a b:=u₂.extBut _ _ D.TOi1 (u₁.extBut _ _ D.TOz gO);refine am (jh gO₂ rfl ?_);refine am (wpAny_updateSeq_pair gO₂ fun m₃ gO₃ u₃=>?_)
 replace gO₃:IsPair m₃ TO x b:=gO₃
 refine am (wpAny_letGo (aW ?_));refine am (am (qp ?_));show wpAny _ _ (il (.ref i2) >>= _) _ _ _;refine am (g0 (((g2.extBut u₁.extBut D.i2z).extBut u₂.extBut D.i12.symm).extBut u₃.extBut D.TOi2.symm)
  (((t2.extBut u₁.extBut D.l2z).extBut u₂.extBut D.l2i1).extBut u₃.extBut D.l2TO) hy fun m₄ g2₄ u₄=>aW ?_)
 have gO₄:IsPair m₄ TO x b:=u₄.extBut _ _ D.TOi2 gO₃;refine am (jh gO₄ rfl ?_);refine am (wpAny_updateSeq_pair gO₄ fun m₅ gO₅ u₅=>?_)
 replace gO₅:IsPair m₅ TO x y:=gO₅
 refine am (wpAny_letGo (aW (aW ?_)));refine am (jh gO₅ rfl ?_);refine am (wpAny_newTuple ?_);have esz:m₅.objs.size=s.heap.objs.size:=by rw[u₅.1,u₄.1,u₃.1,u₂.1,u₁.1]
 have gz₅:IsZip m₅ z TI TO .ellipsis:=u₅.extBut _ _ D.TOz.symm (u₄.extBut _ _ D.i2z.symm (u₃.extBut _ _ D.TOz.symm (u₂.extBut _ _ D.i1z.symm gz₁)));have kp₅:∀c o,c≠z->c≠TO->c≠i1->c≠i2->s.heap.get? c=some o->m₅.get? c=some o:=fun c o c1 c2 c3 c4 e =>
  u₅.extBut _ _ c2 (u₄.extBut _ _ c4 (u₃.extBut _ _ c2 (u₂.extBut _ _ c3 (u₁.extBut _ _ c1 e))))
 have g1₅:m₅.IsTupleIter i1 l1 (k1+1):=((g1₂.extBut u₃.extBut D.TOi1.symm).extBut u₄.extBut D.i12).extBut u₅.extBut D.TOi1.symm;have g2₅:m₅.IsTupleIter i2 l2 (k2+1):=g2₄.extBut u₅.extBut D.TOi2.symm;have zlt:z<m₅.objs.size:=aE gz₅;show wpAny _ _ (cD.SmallTypes.ownedTupleHandOut (.ref z) (.ref m₅.objs.size) >>= _) _ _ _;refine am ?_;unfold cD.SmallTypes.ownedTupleHandOut;have gz₆:IsZip (m₅.push { cls:=.type "tuple",data:=.seq #[x,y] }) z TI TO .ellipsis:=aQ _ gz₅;refine am (kP gz₆ (by simp) fun m₇ gz₇ u₇=>?_)
 replace gz₇:IsZip m₇ z TI TO (rawInt m₅.objs.size):=gz₇
 refine kP gz₇ (by simp) fun m₈ gz₈ u₈=>?_
 replace gz₈:IsZip m₈ z TI TO (rawInt m₅.objs.size):=gz₈
 have up:∀c o,c≠z->m₅.get? c=some o->m₈.get? c=some o:=fun c o c1 e=>u₈.extBut _ _ c1 (u₇.extBut _ _ c1 (aQ _ e));have gT₈:IsPair m₈ m₅.objs.size x y:=u₈.extBut _ _ (dZ zlt) (u₇.extBut _ _ (dZ zlt) (cz _ rfl));have ez8:m₈.objs.size=m₅.objs.size+1:=by rw[u₈.1,u₇.1,lT]
 rw[esz]at gz₈ gT₈ ez8;refine aW ⟨_,rfl,?_⟩;show Q (.ref m₅.objs.size) _;rw[esz];refine k m₈ gz₈ (up _ _ D.TOz gO₅) ?_ ?_ gT₈ ez8 fun c o c1 c2 c3 c4 e=>up c o c1 (kp₅ c o c1 c2 c3 c4 e)
 ·obtain⟨o,e,r⟩:=g1₅;exact⟨o,up _ o D.i1z e,r⟩
 ·obtain⟨o,e,r⟩:=g2₅;exact⟨o,up _ o D.i2z e,r⟩
theorem yn{z TI TO i1 i2 l1 l2:Addr}{k1 k2:Nat}{xs ys:Array Value}{a b:Value}{Q:Fin->Shared->Prop}(hh:A.handled=none)(D:kR z TI TO i1 i2 l1 l2)
  (gz:IsZip s.heap z TI TO .none) (gI:IsPair s.heap TI (.ref i1) (.ref i2)) (gO:IsPair s.heap TO a b)
  (g1:s.heap.IsTupleIter i1 l1 k1) (g2:s.heap.IsTupleIter i2 l2 k2) (t1:s.heap.IsTuple l1 xs) (t2:s.heap.IsTuple l2 ys) (fin:xs[k1]?=none∨ys[k2]?=none)
  (k:∀h' e,(∀c o,c≠z->c≠TO->c≠i1->c≠i2->s.heap.get? c=some o->h'.get? c=some o)->(∃o,h'.get? e=some o/\o.cls=.type "StopIteration")->E (.ref e) { s with heap:=h' }) :
  wpAny (model prog w) A (cD.«zip.__next__» ⟨[.ref z],[]⟩) Q E s:=by
 show wpAny _ _ (field (.ref z) 2 >>= _) _ _ _;refine am (cr gz rfl (x:=.bool false) rfl ?_);show wpAny _ _ (field (.ref z) 3 >>= _) _ _ _;refine am (cr gz rfl (x:=.ref TI) rfl ?_);refine am (jh gI rfl ?_);show wpAny _ _ (qq (.ref z) >>= _) _ _ _;refine am ?_;unfold qq;refine am (cr gz rfl (x:=.none) rfl (aW ?_));simp only[if_true];refine am (l7 ?_);refine am (cr gz rfl (x:=.ref TO) rfl ?_);refine am (kP gz (by simp) fun m₁ gz₁ u₁=>?_)
 replace gz₁:IsZip m₁ z TI TO .ellipsis:=gz₁
 refine am ?_;simp only[List.zipIdx_cons,List.zipIdx_nil,nq,List.forIn_nil];refine am (am (qp ?_));show wpAny _ _ (il (.ref i1) >>= _) _ _ _;cases hx:xs[k1]? with
 |none =>
  refine am (l_ hh (g1.extBut u₁.extBut D.i1z) (t1.extBut u₁.extBut D.l1z) hx fun m₂ e u₂ he=>?_);obtain⟨oe,ge,ce⟩:=he;have gz₂:IsZip m₂ z TI TO .ellipsis:=u₂ _ _ D.i1z.symm gz₁;have nez:e≠z:=fun q=>by subst q;rw[gz₂]at ge;cases ge;simp at ce
  refine kP gz₂ (by simp) fun m₃ _ u₃=>k m₃ e (fun c o c1 _ c3 _ q=>u₃.extBut _ _ c1 (u₂ _ _ c3 (u₁.extBut _ _ c1 q))) ⟨oe,u₃.extBut _ _ nez ge,ce⟩
 |some x =>
  have hy:ys[k2]?=none:=by rcases fin with q|q;rw[hx]at q;cases q;exact q
  refine am (g0 (g1.extBut u₁.extBut D.i1z) (t1.extBut u₁.extBut D.l1z) hx fun m₂ g1₂ u₂=>aW ?_);have gO₂:IsPair m₂ TO a b:=u₂.extBut _ _ D.TOi1 (u₁.extBut _ _ D.TOz gO);refine am (jh gO₂ rfl ?_);refine am (wpAny_updateSeq_pair gO₂ fun m₃ gO₃ u₃=>?_);refine am (wpAny_letGo (aW ?_));refine am (am (qp ?_));show wpAny _ _ (il (.ref i2) >>= _) _ _ _;refine am (l_ hh (((g2.extBut u₁.extBut D.i2z).extBut u₂.extBut D.i12.symm).extBut u₃.extBut D.TOi2.symm)
   (((t2.extBut u₁.extBut D.l2z).extBut u₂.extBut D.l2i1).extBut u₃.extBut D.l2TO) hy fun m₄ e u₄ he=>?_)
  obtain⟨oe,ge,ce⟩:=he;have gz₄:IsZip m₄ z TI TO .ellipsis:=u₄ _ _ D.i2z.symm (u₃.extBut _ _ D.TOz.symm (u₂.extBut _ _ D.i1z.symm gz₁));have nez:e≠z:=fun q=>by subst q;rw[gz₄]at ge;cases ge;simp at ce
  refine kP gz₄ (by simp) fun m₅ _ u₅=>k m₅ e (fun c o c1 c2 c3 c4 q=>u₅.extBut _ _ c1 (u₄ _ _ c4 (u₃.extBut _ _ c2 (u₂.extBut _ _ c3 (u₁.extBut _ _ c1 q))))) ⟨oe,u₅.extBut _ _ nez ge,ce⟩
theorem o9{z TI TO i1 i2 l1 l2:Addr}{k1 k2:Nat}{xs ys:Array Value}{x y a b:Value}{Q:Option Value->Shared->Prop}(D:kR z TI TO i1 i2 l1 l2)
  (gz:IsZip s.heap z TI TO .none) (gI:IsPair s.heap TI (.ref i1) (.ref i2)) (gO:IsPair s.heap TO a b)
  (g1:s.heap.IsTupleIter i1 l1 k1) (g2:s.heap.IsTupleIter i2 l2 k2) (t1:s.heap.IsTuple l1 xs) (t2:s.heap.IsTuple l2 ys) (hx:xs[k1]?=some x) (hy:ys[k2]?=some y)
  (k:∀h',IsZip h' z TI TO (rawInt s.heap.objs.size)->IsPair h' TO x y->h'.IsTupleIter i1 l1 (k1+1)->h'.IsTupleIter i2 l2 (k2+1)->IsPair h' s.heap.objs.size x y->h'.objs.size=s.heap.objs.size+1 ->
   (∀c o,c≠z->c≠TO->c≠i1->c≠i2->s.heap.get? c=some o->h'.get? c=some o)->Q (some (.ref s.heap.objs.size)) { s with heap:=h' }) :
  wpAny (model prog w) A (pyNext (.ref z)) Q E s:=by
 have hT:s.TypeIs (.ref z) "zip":=⟨_,gz,rfl⟩;unfold pyNext;exact am (wpAny_attempt (qv (name:=qt "__next__") hT qo
  (wW qo hT F.entry_zip_next
   (wX D gz gI gO g1 g2 t1 t2 hx hy fun h' a1 a2 a3 a4 a5 a6 a7=>aW (k h' a1 a2 a3 a4 a5 a6 a7)) (F.args_zip_next_1 _))))
theorem rB{z TI TO i1 i2 l1 l2:Addr}{k1 k2:Nat}{xs ys:Array Value}{a b:Value}{Q:Option Value->Shared->Prop}(hh:A.handled=none)(D:kR z TI TO i1 i2 l1 l2)
  (gz:IsZip s.heap z TI TO .none) (gI:IsPair s.heap TI (.ref i1) (.ref i2)) (gO:IsPair s.heap TO a b)
  (g1:s.heap.IsTupleIter i1 l1 k1) (g2:s.heap.IsTupleIter i2 l2 k2) (t1:s.heap.IsTuple l1 xs) (t2:s.heap.IsTuple l2 ys) (fin:xs[k1]?=none∨ys[k2]?=none)
  (k:∀h',(∀c o,c≠z->c≠TO->c≠i1->c≠i2->s.heap.get? c=some o->h'.get? c=some o)->Q none { s with heap:=h' }):wpAny (model prog w) A (pyNext (.ref z)) Q E s:=by
 have hT:s.TypeIs (.ref z) "zip":=⟨_,gz,rfl⟩;unfold pyNext;refine am (wpAny_attempt (qv (name:=qt "__next__") hT qo
  (wW qo hT F.entry_zip_next (yn hh D gz gI gO g1 g2 t1 t2 fin fun h' e kp he=>?_) (F.args_zip_next_1 _))))
 obtain⟨o,ho,hc⟩:=he;refine am (wpAny_isInstance (T:="StopIteration") (b:=true) ⟨o,ho,hc⟩ isSubtype_stop ?_);exact aW (k _ kp)
end
abbrev DN(h:Heap)(l1:Addr):Heap:=h.push { cls:=.type "tuple_iterator",data:=.fields #[.ref l1,.int 0 0] }
abbrev DM(h:Heap)(l1 l2:Addr):Heap:=(DN h l1).push { cls:=.type "tuple_iterator",data:=.fields #[.ref l2,.int 0 0] }
abbrev DK(h:Heap)(l1 l2:Addr):Heap:=(DM h l1 l2).push { cls:=.type "tuple",data:=.seq #[.ref h.objs.size,.ref (DN h l1).objs.size] }
abbrev DJ(h:Heap)(l1 l2:Addr):Heap:=(DK h l1 l2).push { cls:=.type "tuple",data:=.seq #[.none,.none] }
abbrev CJ(h:Heap)(l1 l2:Addr):Heap:=(DJ h l1 l2).push { cls:=.type "zip",data:=.fields #[.none,.bool false,.bool false,.ref (DM h l1 l2).objs.size,.ref (DK h l1 l2).objs.size] }
theorem uY(l1 l2:Addr)(xs ys:Array Value):
  Meets (cD.«zip.__new__» ⟨[.type "zip",.ref l1,.ref l2],[]⟩) (fun _ R s=>s.heap.IsTuple l1 xs/\s.heap.IsTuple l2 ys /\
   R (.ok (.ret (.ref (DJ s.heap l1 l2).objs.size))) { s with heap:=CJ s.heap l1 l2 }) :=
 .of_wp fun prog w A R s h=>by
  obtain⟨hp,g,d,tk,os⟩:=s;obtain⟨q1,q2,h⟩:=h;have hsub:=sub_zip;have T1:Heap.IsTuple (Shared.heap ⟨hp,g,d,tk,os⟩) l1 xs:=q1;have T2:Heap.IsTuple (Shared.heap ⟨hp.push { cls:=.type "tuple_iterator",data:=.fields #[.ref l1,.int 0 0] },g,d,tk,os⟩) l2 ys:=Heap.IsTuple.push q2 _
  wp_walk using vK T1,vK T2
  exact⟨_,rfl,h⟩
section
variable{prog:bj}{w:World}{A:Around}{E:Zc}{s:Shared}
theorem xW{l1 l2:Addr}{xs ys:Array Value}{Q:Zc}(t1:s.heap.IsTuple l1 xs)(t2:s.heap.IsTuple l2 ys)
  (k:∀h',IsZip h' (s.heap.objs.size+4) (s.heap.objs.size+2) (s.heap.objs.size+3) .none->IsPair h' (s.heap.objs.size+2) (.ref s.heap.objs.size) (.ref (s.heap.objs.size+1)) ->
   IsPair h' (s.heap.objs.size+3) .none .none->h'.IsTupleIter s.heap.objs.size l1 0->h'.IsTupleIter (s.heap.objs.size+1) l2 0->(∀c o,s.heap.get? c=some o->h'.get? c=some o)->Q (.ref (s.heap.objs.size+4)) { s with heap:=h' }) :
  wpAny (model prog w) A (call (.type "zip") [.ref l1,.ref l2]) Q E s:=by
 refine callType_new F.called_zip (by decide) (F.typeCall_zip_2 _ _) (F.newCall_zip_2 _ _) (fun obj=>F.args_object_init_3 obj _ _) F.entry_zip_new
  (uY l1 l2 xs ys) ⟨t1,t2,?_⟩
 have z1:(DN s.heap l1).objs.size=s.heap.objs.size+1:=lT ..;have z2:(DM s.heap l1 l2).objs.size=s.heap.objs.size+2:=by rw[lT,z1]
 have z3:(DK s.heap l1 l2).objs.size=s.heap.objs.size+3:=by rw[lT,z2]
 have z4:(DJ s.heap l1 l2).objs.size=s.heap.objs.size+4:=by rw[lT,z3]
 have g5:(CJ s.heap l1 l2).get? (DJ s.heap l1 l2).objs.size=some _:=cz _ rfl;have g4:(CJ s.heap l1 l2).get? (DK s.heap l1 l2).objs.size=some _:=aQ _ (cz _ rfl);have g3:(CJ s.heap l1 l2).get? (DM s.heap l1 l2).objs.size=some _:=aQ _ (aQ _ (cz _ rfl));have g2:(CJ s.heap l1 l2).get? (DN s.heap l1).objs.size=some _:=aQ _ (aQ _ (aQ _ (cz _ rfl)));have g1:(CJ s.heap l1 l2).get? s.heap.objs.size=some _:=aQ _ (aQ _ (aQ _ (aQ _ (cz _ rfl))));show _/\_;rw[z2,z3,z4]at g5;rw[z1,z2]at g3;rw[z3]at g4;rw[z1]at g2;rw[z4];exact⟨⟨_,g5,rfl⟩,k _ g5 g3 g4 ⟨_,g1,rfl,rfl⟩ ⟨_,g2,rfl,rfl⟩ fun c o x =>
  aQ _ (aQ _ (aQ _ (aQ _ (aQ _ x))))⟩
end
def DA(K:Za)(a b:Addr):It :=
  ⟨fun i H=>∃xs ys x y,bN K H a xs/\bN K H b ys/\xs[i]?=some x/\ys[i]?=some y,
   fun i H x H'=>∃p u v,x=.ref p/\H p=none/\(∀xs,bN K H a xs->xs[i]?=some u)/\(∀ys,bN K H b ys->ys[i]?=some v)/\H'=upd H p (.tup [u,v]),
   fun i H=>∃xs ys,bN K H a xs/\bN K H b ys/\(xs.length<=i∨ys.length<=i)⟩
theorem wY{P:bj}{w:World}{K:Za}{es:List Expr}{kx:Nat}{J8:Pos}(a b z TI TO i1 i2:Addr)(D:kR z TI TO i1 i2 a b):
  pf P w K (.Tuple es kx J8) (DA K a b) [z,TI,TO,i1,i2] z (fun i h=>IsZip h z TI TO .none/\IsPair h TI (.ref i1) (.ref i2)/\(∃a b,IsPair h TO a b)/\h.IsTupleIter i1 a i/\h.IsTupleIter i2 b i) where
 mem:=by simp
 obj:=fun i h st c hc=>by
  obtain⟨hz,hTI,⟨u,v,hTO⟩,h1,h2⟩:=st;simp only[bg,gj,or_false]at hc;rcases hc with rfl|rfl|rfl|rfl|rfl
  ·exact⟨_,hz,fun v z=>by cases z⟩
  ·exact⟨_,hTI,fun v z=>by cases z⟩
  ·exact⟨_,hTO,fun v z=>by cases z⟩
  ·obtain⟨o,e,c,d⟩:=h1;exact⟨o,e,fun v z=>by rw[d]at z;cases z⟩
  ·obtain⟨o,e,c,d⟩:=h2;exact⟨o,e,fun v z=>by rw[d]at z;cases z⟩
 keep:=fun i h h' st k=>by
  obtain⟨hz,hTI,⟨u,v,hTO⟩,⟨o1,e1,r1⟩,⟨o2,e2,r2⟩⟩:=st;exact⟨k z (by simp) _ hz,k TI (by simp) _ hTI,⟨u,v,k TO (by simp) _ hTO⟩,⟨o1,k i1 (by simp) o1 e1,r1⟩,⟨o2,k i2 (by simp) o2 e2,r2⟩⟩
 item:=by
  intro X hP hw hK hc i J3 s σ H E I hf st hg;subst hP hw hK;obtain⟨hz,hTI,⟨u0,v0,hTO⟩,h1,h2⟩:=st;obtain⟨xs,ys,x,y,hqx,hqy,hx,hy⟩:=hg;obtain⟨its,rx,px,zx⟩:=I.tuple hqx;obtain⟨jts,ry,py,zy⟩:=I.tuple hqy;obtain⟨u,hu,ru⟩:=rx.get hx;obtain⟨v,hv,rv⟩:=ry.get hy;refine o9 D hz hTI hTO h1 h2 (xs:=its.toArray) (ys:=jts.toArray) px py (x:=u) (y:=v) (by simpa using hu) (by simpa using hv) fun h' a1 a2 a3 a4 a5 a6 hk=>?_;refine⟨_,rfl,wpAny_letOwnedTupleGo_zip (s:={ s with heap:=h' }) a1 fun h2' hz2 hs2=>?_⟩;have hs2':gy z h' h2':=hs2;have nsz:s.heap.objs.size≠z:=dZ (aE hz);have nsTO:s.heap.objs.size≠TO:=dZ (aE hTO);have nsTI:s.heap.objs.size≠TI:=dZ (aE hTI);have nsi1:s.heap.objs.size≠i1:=by obtain⟨o,ho,_⟩:=h1;exact dZ (aE ho)
  have nsi2:s.heap.objs.size≠i2:=by obtain⟨o,ho,_⟩:=h2;exact dZ (aE ho)
  have ht2:IsPair h2' s.heap.objs.size u v:=hs2'.extBut _ _ nsz a5;have I2:Inv X J3 σ (upd H s.heap.objs.size (.tup [x,y])) { s with heap:=h2',toks:=s.toks }:=by
   refine I.turnedNew (ch:=[z,TI,TO,i1,i2]) hf (fun c o hc q=>?_) ⟨_,ht2⟩ (fun _ z=>nomatch z) ⟨by show 2<=aj;decide,[u,v],.cons ru (.cons rv .nil),⟨_,ht2,rfl,_,rfl⟩⟩;have n1:c≠z:=fun q=>hc (by simp[q]);exact hs2'.extBut _ _ n1 (hk c o n1 (fun q=>hc (by simp[q])) (fun q=>hc (by simp[q])) (fun q=>hc (by simp[q])) q)
  have a3':h2'.IsTupleIter i1 a (i+1):=by obtain⟨o,e,r⟩:=a3;exact⟨o,hs2'.extBut _ _ D.i1z e,r⟩
  have a4':h2'.IsTupleIter i2 b (i+1):=by obtain⟨o,e,r⟩:=a4;exact⟨o,hs2'.extBut _ _ D.i2z e,r⟩
  refine⟨.ref s.heap.objs.size,_,I2,rfl,⟨_,x,y,rfl,I.fresh,fun zs hz=>by rw[I.tuple_inj hz hqx];exact hx,fun zs hz=>by rw[I.tuple_inj hz hqy];exact hy,rfl⟩,⟨hz2,hs2'.extBut _ _ D.TIz (hk _ _ D.TIz D.TITO D.TIi1 D.TIi2 hTI),⟨_,_,hs2'.extBut _ _ D.TOz a2⟩,a3',a4'⟩,fun c hc=>?_⟩;have hcn:=(hf c hc).1;simp only[bg,gj,or_false]at hc;have ne:c≠s.heap.objs.size:=by
   rcases hc with rfl|rfl|rfl|rfl|rfl
   ·exact nsz.symm
   ·exact nsTI.symm
   ·exact nsTO.symm
   ·exact nsi1.symm
   ·exact nsi2.symm
  rw[ai ne];exact hcn
 done:=by
  intro X hP hw hK hc i J3 s σ H E I hf st hg;subst hP hw hK;obtain⟨hz,hTI,⟨u0,v0,hTO⟩,h1,h2⟩:=st;obtain⟨xs,ys,hqx,hqy,hend⟩:=hg;obtain⟨its,rx,px,zx⟩:=I.tuple hqx;obtain⟨jts,ry,py,zy⟩:=I.tuple hqy;have lx:=rx.length;have ly:=ry.length;refine rB (I.ok.hd hc) D hz hTI hTO h1 h2 (xs:=its.toArray) (ys:=jts.toArray) px py (by rcases hend with q|q;exact .inl (by simp;omega);exact .inr (by simp;omega)) fun h' hk=>⟨rfl,?_⟩;have tr:∀c q,H c=some q->c∉[z,TI,TO,i1,i2]:=fun c q e m=>by rw[(hf c m).1]at e;cases e
  have kk:∀c o,c∉[z,TI,TO,i1,i2]->s.heap.get? c=some o->h'.get? c=some o:=fun c o hc q=>hk c o (fun q=>hc (by simp[q])) (fun q=>hc (by simp[q])) (fun q=>hc (by simp[q])) (fun q=>hc (by simp[q])) q;refine I.step (g':=s.gens) (d':=s.drawn) (t':=s.toks) (ch:=[z,TI,TO,i1,i2]) (fun c hc=>?_) (fun c o _ _ hc e _=>kk c o hc e) (fun c o _ _ hc e _=>⟨o.slots,kk c o hc e⟩) (fun _ _ _ _ n=>n) (fun c o hc e=>⟨o,kk c o hc e⟩) (fun _ _ e=>e) (fun _ _ _ e=>e) (fun c ps e=>⟨#[],by rw[e];simp⟩) (fun m hm=>?_) (fun c q e=>?_) I.bare
  ·obtain⟨f0,f1,f2,f3,f4,f5⟩:=hf c hc;exact⟨f3,f1,f4,f5⟩
  ·obtain⟨q,es',ep,ho,r⟩:=hm;exact⟨q,es',ep,kk _ q (fun z=>(hf _ z).2.1 rfl) ho,r⟩
  ·refine(I.hok c q e).stay (fun d v hd q'=>kk d v ?_ q') (fun _ q=>q) fun _ _ q=>q;rcases hd with z|z
   ·subst z;exact tr _ _ e
   ·exact tr _ _ z
 self:=fun _ _ _ _ _ st h=>qw st.1 h
section
variable{X:Cx}{p pos:Pos}{es:List Expr}{kx:Nat}{J8:Pos}
def wv(K:Za)(ta:TA):TI:=fun σ H R=>ta σ H fun vs H1=>∃a b,vs=[.ref a,.ref b]/\(((∃xs,aA K H1 a xs)/\(∃ys,aA K H1 b ys)/\R (Itz K a b) H1)∨((∃xs,bN K H1 a xs)/\(∃ys,bN K H1 b ys)/\R (DA K a b) H1))
theorem AG{a b:Expr}{ta:TA}(hg:Gl X "zip")(hm:X.mg "zip"=none)(ha:PA X [a,b] ta)(hs:aG [a,b] X.env=[(false,eval a X.env),(false,eval b X.env)]:=by rfl)(hs2:aG [b] X.env=[(false,eval b X.env)]:=by rfl):
  PI X (.Tuple es kx J8) (.Call (.Name "zip" p) [a,b] [] pos) (wv X.K ta):=by
 intro J3 s σ H R I h;refine Call_ (lB I hg hm boot_zip (vJ (bV (ha pos J3 s σ H _ I h) fun us s1 ⟨vs,H1,I1,r1,q1⟩=>?_) (by rw[hs,hs2]) (by rw[hs2];rfl)));obtain⟨l1,l2,e,q⟩:=q1;subst e;obtain⟨u,v,rfl,ru,rv⟩:=vals2 r1;cases ru;cases rv;have fin:∀b∈[s1.heap.objs.size+4,s1.heap.objs.size+2,s1.heap.objs.size+3,s1.heap.objs.size,s1.heap.objs.size+1],jU X J3 H1 b:=fun b hb=>by
  have hb':s1.heap.objs.size<=b:=by
   simp only[bg,gj,or_false]at hb;rcases hb with rfl|rfl|rfl|rfl|rfl<;>omega
  exact I1.fpOk hb' (I1.hok.fresh hb')
 rcases q with⟨⟨xs,hx⟩,⟨ys,hy⟩,q⟩|⟨⟨xs,hx⟩,⟨ys,hy⟩,q⟩
 ·obtain⟨its,rx,px,zx⟩:=I1.list hx;obtain⟨jts,ry,py,zy⟩:=I1.list hy;obtain⟨o1,n1,e1,_⟩:=id px;obtain⟨o2,n2,e2,_⟩:=id py;refine call_zip_2 px.isList py.isList fun h' a1 a2 a3 a4 a5 a6 hk=>?_;refine qw (s:={ s1 with heap:=h' }) a1 ?_;have hk':∀b o,s1.heap.get? b=some o->h'.get? b=some o:=hk;have I2:Inv X J3 σ H1 { s1 with heap:=h' }:=I1.kept (t':=s1.toks) hk';exact⟨_,_,_,_,H1,rfl,I2,yu l1 l2 _ _ _ _ _ (zipApart_new (aE e1) (aE e2)),⟨a1,a2,⟨_,_,a3⟩,a4,a5⟩,fin,q⟩
 ·obtain⟨its,rx,px,zx⟩:=I1.tuple hx;obtain⟨jts,ry,py,zy⟩:=I1.tuple hy;obtain⟨o1,e1,_⟩:=id px;obtain⟨o2,e2,_⟩:=id py;refine xW (xs:=its.toArray) (ys:=jts.toArray) px py fun h' a1 a2 a3 a4 a5 hk=>?_;refine qw (s:={ s1 with heap:=h' }) a1 ?_;have hk':∀b o,s1.heap.get? b=some o->h'.get? b=some o:=hk;have I2:Inv X J3 σ H1 { s1 with heap:=h' }:=I1.kept (t':=s1.toks) hk';exact⟨_,_,_,_,H1,rfl,I2,wY l1 l2 _ _ _ _ _ (zipApart_new (aE e1) (aE e2)),⟨a1,a2,⟨_,_,a3⟩,a4,a5⟩,fin,q⟩
end
inductive DT where
 |k (a:cG)
 |t (l:List DT)
 |s (l:List DT)
mutual
def BE:(x y:DT)->Decidable (x=y)
 |.k a,.k b=>if h:a=b then Decidable.isTrue (by rw[h])else Decidable.isFalse fun e=>h (by injection e)
 |.t l,.t m=>match decDTs l m with
  |Decidable.isTrue h=>Decidable.isTrue (by rw[h])
  |Decidable.isFalse h=>Decidable.isFalse fun e=>h (by injection e)
 |.s l,.s m=>match decDTs l m with
  |Decidable.isTrue h=>Decidable.isTrue (by rw[h])
  |Decidable.isFalse h=>Decidable.isFalse fun e=>h (by injection e)
 |.k _,.t _=>Decidable.isFalse nofun
 |.k _,.s _=>Decidable.isFalse nofun
 |.t _,.k _=>Decidable.isFalse nofun
 |.t _,.s _=>Decidable.isFalse nofun
 |.s _,.k _=>Decidable.isFalse nofun
 |.s _,.t _=>Decidable.isFalse nofun
def decDTs:(x y:List DT)->Decidable (x=y)
 |[],[]=>Decidable.isTrue rfl
 |[],_::_=>Decidable.isFalse nofun
 |_::_,[]=>Decidable.isFalse nofun
 |a::l,b::m=>match BE a b with
  |Decidable.isTrue h=>match decDTs l m with
   |Decidable.isTrue h'=>Decidable.isTrue (by rw[h,h'])
   |Decidable.isFalse h'=>Decidable.isFalse fun e=>h' (by injection e)
  |Decidable.isFalse h=>Decidable.isFalse fun e=>h (by injection e)
end
instance:DecidableEq DT:=BE
mutual
def DT.depth:DT->Nat
 |.k _=>0
 |.t l=>DT.depths l+1
 |.s l=>DT.depths l+1
def DT.depths:List DT->Nat
 |[]=>0
 |a::r=>max (DT.depth a) (DT.depths r)
end
mutual
def mT(h:Heap):DT->Value->Prop
 |.k a,v=>bL a v=true
 |.t l,v=>∃a items,v=.ref a/\h.IsTuple a items/\DAts h l items.toList
 |.s l,v=>∃a items,v=.ref a/\h.IsList a items/\DAts h l items.toList
def DAts(h:Heap):List DT->List Value->Prop
 |[],vs=>vs=[]
 |k::r,vs=>∃v us,vs=v::us/\mT h k v/\DAts h r us
end
theorem DAts.length{h:Heap}:∀{xs:List DT}{vs:Zf},DAts h xs vs->xs.length=vs.length
 |[],vs,e=>by have e':vs=[]:=e;rw[e'];rfl
 |x::xs,vs,e=>by
  obtain⟨v,us,rfl,_,h2⟩:=e;simp[DAts.length h2]
theorem DAts.get{h:Heap}:∀{xs:List DT}{vs:Zf}{i:Nat}{v:Value},DAts h xs vs->vs[i]?=some v->∃x,xs[i]?=some x/\mT h x v
 |[],vs,i,v,e,q=>by have e':vs=[]:=e;subst e';simp at q
 |x::xs,vs,i,v,e,q=>by
  obtain⟨u,us,rfl,h1,h2⟩:=e;cases i with
  |zero =>
   simp at q;subst q;exact⟨x,rfl,h1⟩
  |succ i =>
   obtain⟨y,e1,e2⟩:=DAts.get h2 (i:=i) (v:=v) (by simpa using q);exact⟨y,by simpa using e1,e2⟩
theorem DT.depths_get{l:List DT}{x:DT}{i d:Nat}(h:DT.depths l<=d)(e:l[i]?=some x):x.depth<=d:=by
 induction l generalizing i with
 |nil=>simp at e
 |cons a r ih =>
  have h':max a.depth (DT.depths r)<=d:=h;cases i with
  |zero=>simp at e;subst e;omega
  |succ i=>exact ih (by omega) (by simpa using e)
theorem va{h:Heap}{a:Addr}{i j:Array Value}(x:h.IsList a i)(y:h.IsList a j):i=j:=by
 obtain⟨o,ho,_,n,hd⟩:=x;obtain⟨o',ho',_,n',hd'⟩:=y;rw[ho]at ho';cases ho';rw[hd]at hd';injection hd'
theorem tK{h:Heap}{a:Addr}{i j:Array Value}(x:h.IsTuple a i)(y:h.IsTuple a j):i=j:=by
 obtain⟨o,ho,_,n,hd⟩:=x;obtain⟨o',ho',_,n',hd'⟩:=y;rw[ho]at ho';cases ho';rw[hd]at hd';injection hd'
theorem gG{h:Heap}{a:Addr}{i j:Array Value}(x:h.IsList a i)(y:h.IsTuple a j):False:=by
 obtain⟨o,ho,hc,_⟩:=x;obtain⟨o',ho',hc',_⟩:=y;rw[ho]at ho';cases ho';rw[hc]at hc';simp at hc'
theorem pW{a b:cG}{v:Value}(h1:bL a v=true)(h2:bL b v=true):a=b:=by
 rcases ao h1 with⟨i,t,rfl,rfl⟩|⟨i,t,rfl,rfl⟩
 ·rcases ao h2 with⟨j,u,rfl,e⟩|⟨j,u,rfl,e⟩
  ·cases e;rfl
  ·cases e
 ·rcases ao h2 with⟨j,u,rfl,e⟩|⟨j,u,rfl,e⟩
  ·cases e
  ·cases e;rfl
theorem fq{a:cG}{b:Addr}(h:bL a (.ref b)=true):False:=by
 rcases ao h with⟨_,_,_,e⟩|⟨_,_,_,e⟩<;>cases e
theorem mT.inj{h:Heap}:∀(d:Nat) {x y:DT}{v:Value},x.depth<=d->mT h x v->mT h y v->x=y:=by
 have key:∀(d:Nat) (ih:∀{x y:DT}{v:Value},x.depth<=d->mT h x v->mT h y v->x=y) (xs ys:List DT) (vs:Zf),DT.depths xs<=d->DAts h xs vs->DAts h ys vs->xs=ys:=by
  intro d ih xs
  induction xs with
  |nil =>
   intro ys vs _ hx hy;have hx':vs=[]:=hx;subst hx';cases ys with
   |nil=>rfl
   |cons y ys=>obtain⟨_,_,e,_⟩:=hy;cases e
  |cons x xs ihl =>
   intro ys vs hd hx hy;obtain⟨v,us,rfl,hx1,hx2⟩:=hx;cases ys with
   |nil=>have hy':v::us=[]:=hy;cases hy'
   |cons y ys =>
    obtain⟨v',us',e,hy1,hy2⟩:=hy;cases e;have hd':max x.depth (DT.depths xs)<=d:=hd;rw[ih (by omega) hx1 hy1,ihl ys us (by omega) hx2 hy2]
 intro d
 induction d with
 |zero =>
  intro x y v hd hx hy;cases x with
  |t l=>exact absurd hd (by show ¬(DT.depths l+1<=0);omega)
  |s l=>exact absurd hd (by show ¬(DT.depths l+1<=0);omega)
  |k a =>
   cases y with
   |k b=>rw[pW hx hy]
   |t l=>obtain⟨b,_,rfl,_⟩:=hy;exact(fq hx).elim
   |s l=>obtain⟨b,_,rfl,_⟩:=hy;exact(fq hx).elim
 |succ d ih =>
  intro x y v hd hx hy;cases x with
  |k a =>
   cases y with
   |k b=>rw[pW hx hy]
   |t l=>obtain⟨b,_,rfl,_⟩:=hy;exact(fq hx).elim
   |s l=>obtain⟨b,_,rfl,_⟩:=hy;exact(fq hx).elim
  |t l =>
   obtain⟨a,i,rfl,hi,hx⟩:=hx;cases y with
   |k b=>exact(fq hy).elim
   |t m =>
    obtain⟨a',j,e,hj,hy⟩:=hy;cases e;rw[tK hj hi]at hy;rw[key d (fun h1=>ih h1) l m i.toList (by have:DT.depths l+1<=d+1:=hd;omega) hx hy]
   |s m =>
    obtain⟨a',j,e,hj,hy⟩:=hy;cases e;exact(gG hj hi).elim
  |s l =>
   obtain⟨a,i,rfl,hi,hx⟩:=hx;cases y with
   |k b=>exact(fq hy).elim
   |s m =>
    obtain⟨a',j,e,hj,hy⟩:=hy;cases e;rw[va hj hi]at hy;rw[key d (fun h1=>ih h1) l m i.toList (by have:DT.depths l+1<=d+1:=hd;omega) hx hy]
   |t m =>
    obtain⟨a',j,e,hj,hy⟩:=hy;cases e;exact(gG hi hj).elim
theorem dR{l m:List DT}(hl:l.length=m.length):((j1 l.length).all fun j=>decide (l[j]?=m[j]?))=decide (l=m):=by
 by_cases e:l=m
 ·subst e;simp
 ·rw[zzr0 e];rw[List.all_eq_false];apply Classical.byContradiction;intro h;apply e;apply List.ext_getElem?;intro i;by_cases hi:i<l.length
  ·apply Classical.byContradiction;intro hne;exact h ⟨i,List.mem_range.mpr hi,by simpa using hne⟩
  ·rw[List.getElem?_eq_none (by omega),List.getElem?_eq_none (by omega)]
section
variable{s:Shared}
theorem Bz:∀(d:Nat) {A:Around}{x y:DT}{u v:Value},x.depth<=d->y.depth<=d->A.units+d<cLine->mT s.heap x u->mT s.heap y v->ba A s u v (decide (x=y)):=by
 have leaves:∀{A:Around}{a b:cG}{u v:Value},bL a u=true->bL b v=true->ba A s u v (decide (DT.k a=DT.k b)):=by
  intro A a b u v h1 h2;have hd:decide (DT.k a=DT.k b)=decide (a=b):=by
   by_cases e:a=b
   ·subst e;simp
   ·have:¬(DT.k a=DT.k b):=fun z=>e (by injection z);rw[zzr0 this,zzr0 e]
  rw[hd];rcases ao h1 with⟨i,t,rfl,rfl⟩|⟨i,t,rfl,rfl⟩
  ·rcases ao h2 with⟨j,u,rfl,rfl⟩|⟨j,u,rfl,rfl⟩
   ·rw[rF];exact ba.int_int i t j u
   ·rw[rE];exact ba.int_str i t j u
  ·rcases ao h2 with⟨j,u,rfl,rfl⟩|⟨j,u,rfl,rfl⟩
   ·rw[rD];exact ba.str_int i t j u
   ·rw[rC];have:=ba.str_str (A:=A) (s:=s) i t j u;rwa[show(i==j)=decide (i=j)from by by_cases e:i=j<;>simp[e]]at this
 have kt:∀{A:Around}{a:cG}{u:Value}{b:Addr}{items:Array Value},A.units<cLine->bL a u=true->s.heap.IsTuple b items->ba A s u (.ref b) false/\ba A s (.ref b) u false:=by
  intro A a u b items hu h1 ht;rcases ao h1 with⟨i,t,rfl,rfl⟩|⟨i,t,rfl,rfl⟩
  ·exact⟨ba.int_tuple i t ht hu,ba.tuple_int i t ht hu⟩
  ·exact⟨ba.str_tuple i t ht hu,ba.tuple_str i t ht hu⟩
 have kl:∀{A:Around}{a:cG}{u:Value}{b:Addr}{items:Array Value},A.units<cLine->bL a u=true->s.heap.IsList b items->ba A s u (.ref b) false/\ba A s (.ref b) u false:=by
  intro A a u b items hu h1 ht;rcases ao h1 with⟨i,t,rfl,rfl⟩|⟨i,t,rfl,rfl⟩
  ·exact⟨ba.int_list i t ht hu,ba.list_int i t ht hu⟩
  ·exact⟨ba.str_list i t ht hu,ba.list_str i t ht hu⟩
 intro d
 induction d with
 |zero =>
  intro A x y u v hdx hdy hu hx hy;cases x with
  |t l=>exact absurd hdx (by show ¬(DT.depths l+1<=0);omega)
  |s l=>exact absurd hdx (by show ¬(DT.depths l+1<=0);omega)
  |k a =>
   cases y with
   |t l=>exact absurd hdy (by show ¬(DT.depths l+1<=0);omega)
   |s l=>exact absurd hdy (by show ¬(DT.depths l+1<=0);omega)
   |k b=>exact leaves hx hy
 |succ d ih =>
  intro A x y u v hdx hdy hu hx hy;have items:∀{l m:List DT}{i j:Array Value},DT.depths l<=d->DT.depths m<=d->DAts s.heap l i.toList->DAts s.heap m j.toList->∀n (h1:n<i.size) (h2:n<j.size),ba A.in1 s i[n] j[n] (decide (l[n]?=m[n]?)):=by
   intro l m i j hl hm hi hj n h1 h2;obtain⟨x,ex,hx⟩:=hi.get (i:=n) (v:=i[n]) (by simp[h1]);obtain⟨y,ey,hy⟩:=hj.get (i:=n) (v:=j[n]) (by simp[h2]);rw[ex,ey];have hd:decide ((some x:Option DT)=some y)=decide (x=y):=by
    by_cases e:x=y
    ·subst e;simp
    ·rw[zzr0 e,zzr0 fun z=>e (c7 z)]
   rw[hd];exact ih (DT.depths_get hl ex) (DT.depths_get hm ey) (by show A.units+1+d<cLine;omega) hx hy
  cases x with
  |k a =>
   cases y with
   |k b=>exact leaves hx hy
   |t l =>
    obtain⟨b,i,rfl,hi,_⟩:=hy;rw[zzr0 (by intro z;cases z)];exact(kt (by omega) hx hi).1
   |s l =>
    obtain⟨b,i,rfl,hi,_⟩:=hy;rw[zzr0 (by intro z;cases z)];exact(kl (by omega) hx hi).1
  |t l =>
   have hl:DT.depths l<=d:=by have:DT.depths l+1<=d+1:=hdx;omega
   have hx0:=hx;obtain⟨a,i,rfl,hi,hx⟩:=hx;cases y with
   |k b =>
    rw[zzr0 (by intro z;cases z)];exact(kt (by omega) hy hi).2
   |s m =>
    obtain⟨b,j,rfl,hj,_⟩:=hy;rw[zzr0 (by intro z;cases z)];exact ba.tuple_list hi hj (by omega)
   |t m =>
    have hm:DT.depths m<=d:=by have:DT.depths m+1<=d+1:=hdy;omega
    have hy0:=hy;obtain⟨b,j,rfl,hj,hy⟩:=hy;by_cases hab:a=b
    ·subst hab;have e:DT.t l=DT.t m:=mT.inj _ (aD _) hx0 hy0;rw[zzr1 e];exact ba.same _
    ·have r:=SeqAt.RcAt.tuples (A:=A) hi hj (by omega) (items hl hm hx hy);have li:=hx.length;have lj:=hy.length;simp only[lX]at li lj;have q:((j1 (min i.size j.size)).all (fun n=>decide (l[n]?=m[n]?)) && i.size==j.size)=decide (DT.t l=DT.t m):=by
      by_cases e:l.length=m.length
      ·have e1:i.size=j.size:=by omega
       rw[<-e1,Nat.min_self,<-li,dR e];by_cases e2:l=m
       ·subst e2;simp
       ·have:¬(DT.t l=DT.t m):=fun z=>e2 (by injection z);rw[zzr0 this,zzr0 e2];rfl
      ·have e1:(i.size==j.size)=false:=by simp;omega
       have:¬(DT.t l=DT.t m):=fun z=>e (by injection z with z;rw[z]);rw[e1,zzr0 this,qm]
     rw[q]at r;exact .of_refs hab r
  |s l =>
   have hl:DT.depths l<=d:=by have:DT.depths l+1<=d+1:=hdx;omega
   have hx0:=hx;obtain⟨a,i,rfl,hi,hx⟩:=hx;cases y with
   |k b =>
    rw[zzr0 (by intro z;cases z)];exact(kl (by omega) hy hi).2
   |t m =>
    obtain⟨b,j,rfl,hj,_⟩:=hy;rw[zzr0 (by intro z;cases z)];exact ba.list_tuple hi hj (by omega)
   |s m =>
    have hm:DT.depths m<=d:=by have:DT.depths m+1<=d+1:=hdy;omega
    have hy0:=hy;obtain⟨b,j,rfl,hj,hy⟩:=hy;by_cases hab:a=b
    ·subst hab;have e:DT.s l=DT.s m:=mT.inj _ (aD _) hx0 hy0;rw[zzr1 e];exact ba.same _
    ·have li:=hx.length;have lj:=hy.length;simp only[lX]at li lj;by_cases e:l.length=m.length
     ·have r:=SeqAt.RcAt.lists (A:=A) hi hj (by omega) (by omega) (items hl hm hx hy);rw[<-li,dR e]at r;have q:decide (l=m)=decide (DT.s l=DT.s m):=by
       by_cases e2:l=m
       ·subst e2;simp
       ·have:¬(DT.s l=DT.s m):=fun z=>e2 (by injection z);rw[zzr0 this,zzr0 e2]
      rw[q]at r;exact .of_refs hab r
     ·have:¬(DT.s l=DT.s m):=fun z=>e (by injection z with z;rw[z]);rw[zzr0 this];exact .of_refs hab (SeqAt.RcAt.lists_lengths hi hj (by simp;omega) (by omega))
end
theorem wG(a b:cG):decide (DT.k a=DT.k b)=decide (a=b):=by
 by_cases e:a=b
 ·subst e;simp
 ·rw[zzr0 e,zzr0 fun z=>e (by injection z)]
theorem BB(l m:List DT):decide (DT.t l=DT.t m)=decide (l=m):=by
 by_cases e:l=m
 ·subst e;simp
 ·rw[zzr0 e,zzr0 fun z=>e (by injection z)]
theorem BC(l m:List DT):decide (DT.s l=DT.s m)=decide (l=m):=by
 by_cases e:l=m
 ·subst e;simp
 ·rw[zzr0 e,zzr0 fun z=>e (by injection z)]
theorem zL(x y:DT):decide ((some x:Option DT)=some y)=decide (x=y):=by
 by_cases e:x=y
 ·subst e;simp
 ·rw[zzr0 e,zzr0 fun z=>e (c7 z)]
section
variable{A:Around}{s:Shared}
theorem kA{d:Nat}(hu:A.units+1+d<cLine){l m:List DT}{i j:Array Value}(hl:DT.depths l<=d)(hm:DT.depths m<=d)(hi:DAts s.heap l i.toList)(hj:DAts s.heap m j.toList):
  ∀n (h1:n<i.size) (h2:n<j.size),ba A.in1 s i[n] j[n] (decide (l[n]?=m[n]?)):=by
 intro n h1 h2;obtain⟨x,ex,hx⟩:=hi.get (i:=n) (v:=i[n]) (by simp[h1]);obtain⟨y,ey,hy⟩:=hj.get (i:=n) (v:=j[n]) (by simp[h2]);rw[ex,ey,zL];exact Bz d (DT.depths_get hl ex) (DT.depths_get hm ey) hu hx hy
theorem vS{l m:List DT}{i j:Array Value}(hi:DAts s.heap l i.toList)(hj:DAts s.heap m j.toList):((j1 (min i.size j.size)).all (fun n=>decide (l[n]?=m[n]?)) && i.size==j.size)=decide (l=m):=by
 have li:=hi.length;have lj:=hj.length;simp only[lX]at li lj;by_cases e:l.length=m.length
 ·have e1:i.size=j.size:=by omega
  rw[<-e1,Nat.min_self,<-li,dR e];simp
 ·have e1:(i.size==j.size)=false:=by simp;omega
  rw[e1,zzr0 fun z=>e (by rw[z]),qm]
theorem Dm{x y:DT}{u v:Value}(dx:x.depth<=8)(dy:y.depth<=8)(hu:A.units+16<cLine)(hx:mT s.heap x u)(hy:mT s.heap y v):SeqAt.RcAt A s u v (decide (x=y)):=by
 cases x with
 |k a =>
  rcases ao (show bL a u=true from hx)with⟨i,t,rfl,rfl⟩|⟨i,t,rfl,rfl⟩
  ·cases y with
   |k b =>
    rw[wG];rcases ao (show bL b v=true from hy)with⟨j,t',rfl,rfl⟩|⟨j,t',rfl,rfl⟩
    ·rw[rF];exact SeqAt.RcAt.int_int i t j t'
    ·rw[rE];exact SeqAt.RcAt.int_str i t j t'
   |t m=>obtain⟨b,j,rfl,hj,_⟩:=hy;rw[zzr0 (by intro z;cases z)];exact SeqAt.RcAt.int_tuple i t hj (by omega)
   |s m=>obtain⟨b,j,rfl,hj,_⟩:=hy;rw[zzr0 (by intro z;cases z)];exact SeqAt.RcAt.int_list i t hj (by omega)
  ·cases y with
   |k b =>
    rw[wG];rcases ao (show bL b v=true from hy)with⟨j,t',rfl,rfl⟩|⟨j,t',rfl,rfl⟩
    ·rw[rD];exact SeqAt.RcAt.str_int i t j t'
    ·rw[rC];have:=SeqAt.RcAt.str_str (A:=A) (s:=s) i t j t';rwa[show(i==j)=decide (i=j)from by by_cases e:i=j<;>simp[e]]at this
   |t m=>obtain⟨b,j,rfl,hj,_⟩:=hy;rw[zzr0 (by intro z;cases z)];exact SeqAt.RcAt.str_tuple i t hj (by omega)
   |s m=>obtain⟨b,j,rfl,hj,_⟩:=hy;rw[zzr0 (by intro z;cases z)];exact SeqAt.RcAt.str_list i t hj (by omega)
 |t l =>
  obtain⟨a,i,rfl,hi,hx⟩:=hx;have dl:DT.depths l<=7:=by have:DT.depths l+1<=8:=dx;omega
  cases y with
  |k b =>
   rw[zzr0 (by intro z;cases z)];rcases ao (show bL b v=true from hy)with⟨j,t',rfl,rfl⟩|⟨j,t',rfl,rfl⟩
   ·exact SeqAt.RcAt.tuple_int j t' hi (by omega)
   ·exact SeqAt.RcAt.tuple_str j t' hi (by omega)
  |t m =>
   obtain⟨b,j,rfl,hj,hy⟩:=hy;have dm:DT.depths m<=7:=by have:DT.depths m+1<=8:=dy;omega
   have r:=SeqAt.RcAt.tuples (A:=A) hi hj (by omega) (kA (by omega) dl dm hx hy);rw[vS hx hy]at r;rw[BB];exact r
  |s m=>obtain⟨b,j,rfl,hj,_⟩:=hy;rw[zzr0 (by intro z;cases z)];exact SeqAt.RcAt.tuple_list hi hj (by omega)
 |s l =>
  obtain⟨a,i,rfl,hi,hx⟩:=hx;have dl:DT.depths l<=7:=by have:DT.depths l+1<=8:=dx;omega
  cases y with
  |k b =>
   rw[zzr0 (by intro z;cases z)];rcases ao (show bL b v=true from hy)with⟨j,t',rfl,rfl⟩|⟨j,t',rfl,rfl⟩
   ·exact SeqAt.RcAt.list_int j t' hi (by omega)
   ·exact SeqAt.RcAt.list_str j t' hi (by omega)
  |t m=>obtain⟨b,j,rfl,hj,_⟩:=hy;rw[zzr0 (by intro z;cases z)];exact SeqAt.RcAt.list_tuple hi hj (by omega)
  |s m =>
   obtain⟨b,j,rfl,hj,hy⟩:=hy;have dm:DT.depths m<=7:=by have:DT.depths m+1<=8:=dy;omega
   have li:=hx.length;have lj:=hy.length;simp only[lX]at li lj;rw[BC];by_cases e:l.length=m.length
   ·have r:=SeqAt.RcAt.lists (A:=A) hi hj (by omega) (by omega) (kA (by omega) dl dm hx hy);rw[<-li,dR e]at r;exact r
   ·rw[zzr0 fun z=>e (by rw[z])];exact SeqAt.RcAt.lists_lengths hi hj (by simp;omega) (by omega)
theorem Dn{x y:DT}{u v:Value}(dx:x.depth<=8)(dy:y.depth<=8)(hu:A.units+16<cLine)(hx:mT s.heap x u)(hy:mT s.heap y v):SeqAt.RcNeAt A s u v (!decide (x=y)):=by
 cases x with
 |k a =>
  rcases ao (show bL a u=true from hx)with⟨i,t,rfl,rfl⟩|⟨i,t,rfl,rfl⟩
  ·cases y with
   |k b =>
    rw[wG];rcases ao (show bL b v=true from hy)with⟨j,t',rfl,rfl⟩|⟨j,t',rfl,rfl⟩
    ·rw[rF];exact SeqAt.RcNeAt.int_int i t j t'
    ·rw[rE];exact SeqAt.RcNeAt.int_str i t j t'
   |t m=>obtain⟨b,j,rfl,hj,_⟩:=hy;rw[zzr0 (by intro z;cases z)];exact SeqAt.RcNeAt.int_tuple i t hj (by omega)
   |s m=>obtain⟨b,j,rfl,hj,_⟩:=hy;rw[zzr0 (by intro z;cases z)];exact SeqAt.RcNeAt.int_list i t hj (by omega)
  ·cases y with
   |k b =>
    rw[wG];rcases ao (show bL b v=true from hy)with⟨j,t',rfl,rfl⟩|⟨j,t',rfl,rfl⟩
    ·rw[rD];exact SeqAt.RcNeAt.str_int i t j t'
    ·rw[rC];have:=SeqAt.RcNeAt.str_str (A:=A) (s:=s) i t j t';rwa[show(i==j)=decide (i=j)from by by_cases e:i=j<;>simp[e]]at this
   |t m=>obtain⟨b,j,rfl,hj,_⟩:=hy;rw[zzr0 (by intro z;cases z)];exact SeqAt.RcNeAt.str_tuple i t hj (by omega)
   |s m=>obtain⟨b,j,rfl,hj,_⟩:=hy;rw[zzr0 (by intro z;cases z)];exact SeqAt.RcNeAt.str_list i t hj (by omega)
 |t l =>
  obtain⟨a,i,rfl,hi,hx⟩:=hx;have dl:DT.depths l<=7:=by have:DT.depths l+1<=8:=dx;omega
  cases y with
  |k b =>
   rw[zzr0 (by intro z;cases z)];rcases ao (show bL b v=true from hy)with⟨j,t',rfl,rfl⟩|⟨j,t',rfl,rfl⟩
   ·exact SeqAt.RcNeAt.tuple_int j t' hi (by omega)
   ·exact SeqAt.RcNeAt.tuple_str j t' hi (by omega)
  |t m =>
   obtain⟨b,j,rfl,hj,hy⟩:=hy;have dm:DT.depths m<=7:=by have:DT.depths m+1<=8:=dy;omega
   have r:=SeqAt.RcNeAt.tuples (A:=A) hi hj (by omega) (kA (by omega) dl dm hx hy);rw[vS hx hy]at r;rw[BB];exact r
  |s m=>obtain⟨b,j,rfl,hj,_⟩:=hy;rw[zzr0 (by intro z;cases z)];exact SeqAt.RcNeAt.tuple_list hi hj (by omega)
 |s l =>
  obtain⟨a,i,rfl,hi,hx⟩:=hx;have dl:DT.depths l<=7:=by have:DT.depths l+1<=8:=dx;omega
  cases y with
  |k b =>
   rw[zzr0 (by intro z;cases z)];rcases ao (show bL b v=true from hy)with⟨j,t',rfl,rfl⟩|⟨j,t',rfl,rfl⟩
   ·exact SeqAt.RcNeAt.list_int j t' hi (by omega)
   ·exact SeqAt.RcNeAt.list_str j t' hi (by omega)
  |t m=>obtain⟨b,j,rfl,hj,_⟩:=hy;rw[zzr0 (by intro z;cases z)];exact SeqAt.RcNeAt.list_tuple hi hj (by omega)
  |s m =>
   obtain⟨b,j,rfl,hj,hy⟩:=hy;have dm:DT.depths m<=7:=by have:DT.depths m+1<=8:=dy;omega
   have li:=hx.length;have lj:=hy.length;simp only[lX]at li lj;rw[BC];by_cases e:l.length=m.length
   ·have r:=SeqAt.RcNeAt.lists (A:=A) hi hj (by omega) (by omega) (kA (by omega) dl dm hx hy);rw[<-li,dR e]at r;exact r
   ·rw[zzr0 fun z=>e (by rw[z])];exact SeqAt.RcNeAt.lists_lengths hi hj (by simp;omega) (by omega)
end
mutual
def iO(K:Za)(H:Hp):DT->V->Prop
 |.k a,v=>v=kV a
 |.t l,v=>∃b xs,v=.ref b/\bN K H b xs/\DIns K H l xs
 |.s l,v=>∃b xs,v=.ref b/\aA K H b xs/\DIns K H l xs
def DIns(K:Za)(H:Hp):List DT->List V->Prop
 |[],vs=>vs=[]
 |k::r,vs=>∃v us,vs=v::us/\iO K H k v/\DIns K H r us
end
section
variable{X:Cx}{J3:Zd}{σ:St}{H:Hp}{s:Shared}
theorem jN(I:Inv X J3 σ H s):∀(d:Nat) {k:DT}{v:V}{u:Value},k.depth<=d->iO X.K H k v->RelV v u->mT s.heap k u:=by
 have key:∀(d:Nat) (ih:∀{k:DT}{v:V}{u:Value},k.depth<=d->iO X.K H k v->RelV v u->mT s.heap k u) (ks:List DT) (vs:List V) (us:Zf),DT.depths ks<=d->DIns X.K H ks vs->aK vs us->DAts s.heap ks us:=by
  intro d ih ks
  induction ks with
  |nil =>
   intro vs us _ hx r;have e:vs=[]:=hx;subst e;cases r
   rfl
  |cons k ks ihl =>
   intro vs us hd hx r;obtain⟨v,vs',rfl,h1,h2⟩:=hx;cases r with
   |@cons _ u _ us' r1 r2 =>
    have hd':max k.depth (DT.depths ks)<=d:=hd;exact⟨u,us',rfl,ih (by omega) h1 r1,ihl vs' us' (by omega) h2 r2⟩
 intro d
 induction d with
 |zero =>
  intro k v u hd hx r;cases k with
  |t l=>exact absurd hd (by show ¬(DT.depths l+1<=0);omega)
  |s l=>exact absurd hd (by show ¬(DT.depths l+1<=0);omega)
  |k b =>
   have e:v=kV b:=hx;subst e;exact ib (P:=X.prog) (w:=X.w) r
 |succ d ih =>
  intro k v u hd hx r;cases k with
  |k b =>
   have e:v=kV b:=hx;subst e;exact ib (P:=X.prog) (w:=X.w) r
  |t l =>
   obtain⟨b,xs,rfl,hb,hi⟩:=hx;cases(show u=Value.ref b from r);obtain⟨its,rv,ht,_⟩:=I.tuple hb;exact⟨b,its.toArray,rfl,ht,by simpa using key d (fun h1=>ih h1) l xs its (by have:DT.depths l+1<=d+1:=hd;omega) hi rv⟩
  |s l =>
   obtain⟨b,xs,rfl,hb,hi⟩:=hx;cases(show u=Value.ref b from r);obtain⟨its,rv,ht,_⟩:=I.list hb;exact⟨b,its.toArray,rfl,ht.isList,by simpa using key d (fun h1=>ih h1) l xs its (by have:DT.depths l+1<=d+1:=hd;omega) hi rv⟩
theorem kB(I:Inv X J3 σ H s):∀{ks:List DT}{vs:List V}{us:Zf},DT.depths ks<=8->DIns X.K H ks vs->aK vs us->DAts s.heap ks us
 |[],vs,us,_,hx,r=>by
  have e:vs=[]:=hx;subst e;cases r
  rfl
 |k::ks,vs,us,hd,hx,r=>by
  obtain⟨v,vs',rfl,h1,h2⟩:=hx;cases r with
  |@cons _ u _ us' r1 r2 =>
   have hd':max k.depth (DT.depths ks)<=8:=hd;exact⟨u,us',rfl,jN I 8 (by omega) h1 r1,kB I (by omega) h2 r2⟩
end
def yW(K:Za):R2:=fun x y H Q=>∃d e:DT,iO K H d x/\iO K H e y/\d.depth<=8/\e.depth<=8/\Q (.bl (decide (d=e))) H
def C7(K:Za):R2:=fun x y H Q=>∃d e:DT,iO K H d x/\iO K H e y/\d.depth<=8/\e.depth<=8/\Q (.bl (!decide (d=e))) H
section
variable{X:Cx}
theorem uW(hu:X.A.units+16<cLine):kF X (da .Eq) (yW X.K):=by
 intro J3 s σ H x y v u Q I rx ry h;obtain⟨d,e,hx,hy,dx,dy,q⟩:=h;exact Dm dx dy hu (jN I 8 dx hx rx) (jN I 8 dy hy ry) X.prog X.w X.xe _ ⟨.bl _,H,I,rfl,q⟩
theorem Cb(hu:X.A.units+16<cLine):kF X (da .NotEq) (C7 X.K):=by
 intro J3 s σ H x y v u Q I rx ry h;obtain⟨d,e,hx,hy,dx,dy,q⟩:=h;exact Dn dx dy hu (jN I 8 dx hx rx) (jN I 8 dy hy ry) X.prog X.w X.xe _ ⟨.bl _,H,I,rfl,q⟩
def xD(K:Za)(neg:Bool):R2:=fun x y H Q=>∃(d:DT) (ds:List DT) (p:Addr) (xs:List V),iO K H d x/\y=.ref p/\(aA K H p xs∨bN K H p xs)/\DIns K H ds xs/\d.depth<=8/\DT.depths ds<=8/\Q (.bl (if neg then !decide (d∈ds)else decide (d∈ds))) H
open Classical in
theorem kE{h:Heap}{d:DT}(d8:d.depth<=8):∀{ds:List DT}{us:Zf},DAts h ds us->DT.depths ds<=8->us.any (fun u=>@decide (mT h d u) (propDecidable _))=decide (d∈ds)
 |[],us,e,_=>by
  have e':us=[]:=e;subst e'
  rfl
 |x::ds,us,e,hd=>by
  obtain⟨u,us',rfl,h1,h2⟩:=e;have hd':max x.depth (DT.depths ds)<=8:=hd;rw[qD,kE d8 h2 (by omega)];by_cases q:d=x
  ·subst q;simp[h1]
  ·have n:¬mT h d u:=fun z=>q (mT.inj 8 d8 z h1);simp[n,q]
open Classical in
theorem oh{A:Around}{s:Shared}{d:DT}{v:Value}(d8:d.depth<=8)(hu:A.units+8<cLine)(hd:mT s.heap d v):∀{ds:List DT}{us:Zf},DAts s.heap ds us->DT.depths ds<=8->∀u∈us,ba A s u v (@decide (mT s.heap d u) (propDecidable _))
 |[],us,e,_,u,hm=>by
  have e':us=[]:=e;subst e';cases hm
 |x::ds,us,e,h8,u,hm=>by
  obtain⟨u',us',rfl,h1,h2⟩:=e;have h8':max x.depth (DT.depths ds)<=8:=h8;rcases bg.mp hm with rfl|hm
  ·have q:=Bz 8 (A:=A) (by omega) d8 hu h1 hd;by_cases z:x=d
   ·subst z;rw[zzr1 h1];rwa[zzr1 rfl]at q
   ·have n:¬mT s.heap d u:=fun w=>z (mT.inj 8 d8 w h1).symm;rw[zzr0 n];rwa[zzr0 z]at q
  ·exact oh d8 hu hd h2 (by omega) u hm
theorem za(hu:X.A.units+16<cLine):kF X (da .In) (xD X.K false):=by
 intro J3 s σ H x y v u Q I rx ry h;obtain⟨d,ds,p,xs,hx,rfl,hq,hds,d8,ds8,q⟩:=h;cases ry;have hd:=jN I 8 d8 hx rx;have hu':X.A.in1.units+8<cLine:=by show X.A.units+1+8<cLine;omega
 rcases hq with hq|hq
 ·obtain⟨its,r,pl,hz⟩:=I.list hq;have hi:=kB I ds8 hds r;refine SeqAt.in_listAt _ pl.isList (fun w hw=>oh d8 hu' hd hi ds8 w (by simpa using hw)) ⟨.bl _,H,I,rfl,?_⟩;rw[qk,kE d8 hi ds8];exact q
 ·obtain⟨its,r,pl,hz⟩:=I.tuple hq;have hi:=kB I ds8 hds r;refine SeqAt.in_tupleAt _ pl (fun w hw=>oh d8 hu' hd hi ds8 w (by simpa using hw)) ⟨.bl _,H,I,rfl,?_⟩;rw[qk,kE d8 hi ds8];exact q
theorem pS(hu:X.A.units+16<cLine):kF X (da .NotIn) (xD X.K true):=by
 intro J3 s σ H x y v u Q I rx ry h;obtain⟨d,ds,p,xs,hx,rfl,hq,hds,d8,ds8,q⟩:=h;cases ry;have hd:=jN I 8 d8 hx rx;have hu':X.A.in1.units+8<cLine:=by show X.A.units+1+8<cLine;omega
 rcases hq with hq|hq
 ·obtain⟨its,r,pl,hz⟩:=I.list hq;have hi:=kB I ds8 hds r;refine SeqAt.notIn_listAt _ pl.isList (fun w hw=>oh d8 hu' hd hi ds8 w (by simpa using hw)) ⟨.bl _,H,I,rfl,?_⟩;rw[qk,kE d8 hi ds8];exact q
 ·obtain⟨its,r,pl,hz⟩:=I.tuple hq;have hi:=kB I ds8 hds r;refine SeqAt.notIn_tupleAt _ pl (fun w hw=>oh d8 hu' hd hi ds8 w (by simpa using hw)) ⟨.bl _,H,I,rfl,?_⟩;rw[qk,kE d8 hi ds8];exact q
end
def oy(z:Str)(lo hi:Option Int):Str:=⟨((z.cps.toList.drop (HT.sIx z.length 0 lo)).take (HT.sIx z.length z.length hi-HT.sIx z.length 0 lo)).toArray⟩
theorem sliceRange_one(a b:Nat):sliceRange (a:Int) (b:Int) 1=(j1 (b-a)).map (fun k=>a+k):=by
 unfold sliceRange;simp only[show(1:Int) > 0 from by decide,if_true];by_cases h:(a:Int)<(b:Int)
 ·have e:(if(a:Int)<(b:Int)then((b:Int)-a+1-1) / 1 else 0).toNat=b-a:=by rw[if_pos h];omega
  rw[e];exact List.map_congr_left fun k _=>by omega
 ·have e:(if(a:Int)<(b:Int)then((b:Int)-a+1-1) / 1 else 0).toNat=b-a:=by rw[if_neg h];omega
  rw[e];exact List.map_congr_left fun k _=>by omega
theorem tW(v:Option Int)(n d:Nat):(match v with|none=>(d:Int)|some i=>max 0 (min (if i<0 then i+(n:Int)else i) (n:Int)))=((HT.sIx n d v:Nat):Int):=by
 cases v with
 |none=>rfl
 |some i =>
  rw[<-HT.clip_eq i n d];dsimp only;by_cases h:i<0
  ·rw[if_pos h,if_pos h];omega
  ·rw[if_neg h,if_neg h];omega
theorem kb(lo hi:Option Int)(n:Nat):nj lo hi 1 n=(j1 (HT.sIx n n hi-HT.sIx n 0 lo)).map (fun k=>HT.sIx n 0 lo+k):=by
 have e1:=tW lo n 0;have e2:=tW hi n n;rw[<-sliceRange_one,<-e1,<-e2];unfold nj;simp only[show(1:Int) > 0 from by decide,if_true];cases lo<;>cases hi<;>rfl
theorem xw(z:Str)(lo hi:Option Int):Txt.slice z lo hi=oy z lo hi:=by
 have ha:HT.sIx z.length 0 lo<=z.length:=HT.sIx_le _ _ (cy _) _;have hb:HT.sIx z.length z.length hi<=z.length:=HT.sIx_le _ _ (aD _) _;have hlen:z.cps.toList.length=z.length:=by simp[Str.length]
 have pick:(nj lo hi 1 z.length).filterMap (z.cps[·]?)=(z.cps.toList.drop (HT.sIx z.length 0 lo)).take (HT.sIx z.length z.length hi-HT.sIx z.length 0 lo):=by
  rw[kb];generalize HT.sIx z.length 0 lo=a at *;generalize HT.sIx z.length z.length hi=b at *;have h:=StrLaws.picks z.cps.toList (b-a) a (by omega);simpa using h
 unfold Txt.slice;by_cases h:((1:Int)==1 && (nj lo hi 1 z.length).length==z.length)=true
 ·rw[if_pos h];have hl:(nj lo hi 1 z.length).length=z.length:=by simpa using h
  rw[kb,ap,List.length_range]at hl;unfold oy;have a0:HT.sIx z.length 0 lo=0:=by omega
  have bn:HT.sIx z.length z.length hi-HT.sIx z.length 0 lo=z.cps.toList.length:=by omega
  rw[bn,a0,kO,c9]
 ·rw[if_neg h];unfold oy;rw[pick]
section
variable{X:Cx}
def Ay:V->Option Int->Option Int->Hp->VK->Prop:=fun x lo hi H Q=>∃z,x=.str z/\z.length<=aj/\Q (.str (oy z lo hi)) H
theorem uG:SlR X Ay:=by
 intro J3 s σ H x v vl vu lo hi sl Q I rx hs pl pu h;obtain⟨z,rfl,hz,q⟩:=h;obtain⟨t,rfl⟩:=rx;rw[<-xw]at q;refine⟨"str",_,F.slot_str_getitem.lookup,typeIs_str _ _ _,?_⟩;obtain⟨o,ho,hc,hd⟩:=hs;have fin:∀(l u:Option (Int×Tok)),vl=partValue l->vu=partValue u->lo=l.map (·.1)->hi=u.map (·.1)->wpAny (model X.prog X.w) X.A (jw (.str z t) (.ref sl)) (EP X J3 σ Q) X.xe s:=by
  rintro l u rfl rfl rfl rfl;refine wpAny_getItem_str_slice (l:=l) (u:=u) (st:=none) ⟨o,ho,hc,hd⟩ rfl (post_val_or_str ⟨bF (Txt.slice_le z _ _) hz,fun t' k=>⟨.str _,H,I.tok _,⟨_,rfl⟩,q⟩⟩)
 cases pl with
 |none =>
  cases pu with
  |none=>exact fin none none rfl rfl rfl rfl
  |int j u=>exact fin none (some (j,u)) rfl rfl rfl rfl
 |int i t' =>
  cases pu with
  |none=>exact fin (some (i,t')) none rfl rfl rfl rfl
  |int j u=>exact fin (some (i,t')) (some (j,u)) rfl rfl rfl rfl
def pM(K:Za):V->List V->Hp->VK->Prop:=fun x vs H Q=>∃z p ys,x=.str z/\vs=[.ref p]/\aA K H p (ys.map V.str)/\(ys.map (·.length)).sum+ys.length * z.length<=16777216/\Q (.str (jr z ys)) H
theorem Ap{ys:Zb}:∀{us:Zf},aK (ys.map V.str) us->StrsAre us ys:=by
 induction ys with
 |nil=>intro us r;cases r;exact .nil
 |cons y ys ih =>
  intro us r;cases r with
  |cons r1 r2 =>
   obtain⟨t,rfl⟩:=r1;exact .cons _ _ (ih r2)
theorem mO:Dz X "str.join" (pM X.K):=by
 intro J3 s σ H x vs v us Q I rx rv h;obtain⟨z,p,ys,rfl,rfl,hq,hz,q⟩:=h;obtain⟨t,rfl⟩:=rx;obtain⟨u,rfl,ru⟩:=rv.one;cases ru;obtain⟨its,r,pl,_⟩:=I.list hq;exact join_list pl.isList (by simpa using Ap r) hz fun t' k=>⟨.str _,H,I.tok _,⟨_,rfl⟩,q⟩
end
section
variable{X:Cx}
def TyX(K:Za)(H:Hp)(x:V)(t:Value):Prop:=jP K H x t∨(∃a xs,x=.ref a/\t=.type "tuple"/\bN K H a xs)∨(∃a xs,x=.ref a/\t=.type "list"/\aA K H a xs)
theorem u_{J3:Zd}{σ:St}{H:Hp}{s:Shared}{A:Around}{E:Zc}{Q:Zc}{c:Value}{b:Bool}{x:V}{u t:Value}(I:Inv X J3 σ H s)(rx:RelV x u)(ty:TyX X.K H x t)(e:sC X.K t c=some b)(h:∀tk,Q (.bool b) { s with toks:=tk }):
  wpAny (model X.prog X.w) A (call (.builtin "isinstance") [u,c]) Q E s:=by
 rcases ty with ty|⟨a,xs,rfl,rfl,q⟩|⟨a,xs,rfl,rfl,q⟩
 ·exact xM I rx ty e h
 ·cases(show u=Value.ref a from rx);obtain⟨its,rv,p,hz⟩:=I.tuple q;obtain⟨o,h1,h2,_⟩:=p;exact gv PySem.W.kitx_tuple I.kIn ⟨o,h1,h2⟩ e (fun z=>nomatch z) h
 ·cases(show u=Value.ref a from rx);obtain⟨its,rv,p,hz⟩:=I.list q;obtain⟨o,n,h1,h2,_⟩:=p;exact gv PySem.W.kitx_list I.kIn ⟨o,h1,h2⟩ e (fun z=>nomatch z) h
theorem cV:eP X (.builtin "isinstance") (fun xs H Q=>∃x c t b,xs=[x,.ty c]/\TyX X.K H x t/\sC X.K t (.type c)=some b/\Q (.bl b) H):=by
 intro J3 s σ H xs us Q I r h;obtain⟨x,c,t,b,rfl,ty,hk,q⟩:=h;obtain⟨u,v,rfl,ru,rv⟩:=vals2 r;cases(show v=Value.type c from rv);exact u_ I ru ty hk fun tk=>⟨.bl b,H,I.tok _,rfl,q⟩
theorem Cy{bs:List Bool}{us:Zf}(r:aK (bs.map V.bl) us){i:Nat}{v:Value}(h:us[i]?=some v):v=.bool ((bs[i]?).getD false)/\i<bs.length:=by
 have hi:i<us.length:=(db.mp h).1;have hl:=r.length;rw[ap]at hl;have hb:i<bs.length:=by omega
 obtain⟨u,hu,ru⟩:=r.get (i:=i) (x:=V.bl bs[i]) (by simp[hb]);rw[h]at hu;cases hu;refine⟨?_,hb⟩;rw[qj hb];exact ru
theorem se(bs:List Bool):((j1 bs.length).all fun i=>(bs[i]?).getD false)=bs.all id:=by
 induction bs with
 |nil=>rfl
 |cons b bs ih =>
  rw[c6,List.range_succ_eq_map,nh,kN,nh,<-ih]
  rfl
theorem iJ(hc:X.calm=true):eP X (.builtin "all") (fun xs H Q=>∃(p:Addr) (bs:List Bool),xs=[.ref p]/\aA X.K H p (bs.map V.bl)/\Q (.bl (bs.all id)) H):=by
 intro J3 s σ H xs us Q I r h;obtain⟨p,bs,rfl,hq,q⟩:=h;obtain⟨u,rfl,ru⟩:=vals1 r;cases ru;obtain⟨its,rv,pl,hz⟩:=I.list hq;obtain⟨o,n,ho,_⟩:=id pl;have hl:=rv.length;rw[ap]at hl;refine call_all_walk (vL pl.isList ?_);refine⟨s.heap.objs.size,_,_,_,_,_,fun i=>(bs[i]?).getD false,rfl,Walks.list (prog:=X.prog) (w:=X.w) (A:=X.A.in1) (I.ok.hd hc) s.heap.objs.size p (bP (aE ho)) its.toArray,⟨⟨_,cz _ rfl,rfl,rfl⟩,pl.isList.push _⟩,?_,?_⟩
 ·intro i v s' Q' E' hv hq';obtain⟨e,_⟩:=Cy rv (i:=i) (v:=v) (by simpa using hv);rw[e];exact ni hq'
 ·intro h' tk hk;have I':Inv X J3 σ H { s with heap:=h',toks:=tk }:=I.kept fun b o e=>hk b o (by simp;exact bP (aE e)) (aQ _ e);rw[bD,<-hl,se];exact⟨.bl _,H,I',rfl,q⟩
theorem uV:kF X (da .In) (fun x y H Q=>∃c j,x=.str ⟨#[c]⟩/\y=.str j/\Q (.bl (decide (c∈j.cps.toList))) H):=by
 intro J3 s σ H x y v u Q I rx ry h;obtain⟨c,j,rfl,rfl,q⟩:=h;rw[<-StrLaws.found_one]at q;exact xE J3 s σ H _ _ v u Q I rx ry ⟨_,_,rfl,rfl,q⟩
theorem oF(hc:X.calm=true):eP X (.type "list") (fun xs H Q=>∃(d:Addr) (kvs:List (cG×V)),xs=[.ref d]/\Rd H d (.dK kvs)/\∀l,H l=none->Q (.ref l) (upd H l (.lst (kvs.map fun kv=>kV kv.1)))):=by
 intro J3 s σ H xs us Q I r h;obtain⟨d,kvs,rfl,hd,q⟩:=h;obtain⟨u,rfl,ru⟩:=vals1 r;cases ru;obtain⟨z,hsys,vs,rel,dd⟩:=mi I.hok hd;obtain⟨ep,hat⟩:=dd.dictAt;have hl:=rel.length;refine PySem.W.kdl_call (PySem.W.kdl_dict (knd:=bo X.prog X.w) (kvs:=vs) (ep:=ep) hsys) (I.ok.hd hc) hat (by rw[<-hl];exact z) fun h' tk acc c hk hD hacc=>?_;have hv:aK (kvs.map fun kv=>kV kv.1) acc.toList:=by
  obtain⟨hn,hP⟩:=hacc;have key:∀(a:Zf) (ks:List (cG×V)) (ws:List (cG×Value)),KV ks ws->a.length=ws.length->(∀(j:Nat) (v:Value),a[j]?=some v->∃k x,ws[j]?=some (k,x)/\(bo X.prog X.w).is k v=true)->aK (ks.map fun kv=>kV kv.1) a:=by
   intro a ks ws rl
   induction rl generalizing a with
   |nil=>intro ha _;cases a with
    |nil=>exact .nil
    |cons _ _=>cases ha
   |@cons p w' ps ws' hp _ ih =>
    intro ha hj;cases a with
    |nil=>cases ha
    |cons v a =>
     obtain⟨k,x,e,hk⟩:=hj 0 v rfl;have e':w'=(k,x):=by simpa using e
     refine .cons ?_ (ih a (by simpa using ha) fun j v hv=>by simpa using hj (j+1) v (by simpa using hv));have ek:p.1=k:=by rw[hp.1,e']
     show RelV (kV p.1) v;rw[ek];rcases ao (show bL k v=true from hk)with⟨i,t,rfl,rfl⟩|⟨i,t,rfl,rfl⟩
     ·exact⟨t,rfl⟩
     ·exact⟨t,rfl⟩
  exact key acc.toList kvs vs rel (by rw[lX];exact hn) fun j v hv=>hP j v (by rw[<-Array.getElem?_toList];exact hv)
 refine⟨.ref s.heap.objs.size,_,I.laid (o:=.lst (kvs.map fun kv=>kV kv.1)) hk (aD _) ⟨by rw[ap];exact z,acc.toList,c,hv,by rw[Array.toArray_toList];exact hD⟩,rfl,q _ I.fresh⟩
end
section
variable{prog:bj}{w:World}{K:Type}[DecidableEq K]{knd:HeapKind prog w K}{A:Around}{E:Zc}{s:Shared}
theorem nF{d a:Addr}{xs:List (K×Addr×Value)}{k:K}{v:Value}{Q:Zc}(hu:knd.room A)(hkey:knd.is s.heap k a)(hm:s.heap.DictOfH knd d xs)
  (there:∀p,atKey xs k=some p->Q p.2 { s with toks:=s.toks+knd.draws k })
  (new:atKey xs k=none->∀h',h'.DictOfH knd d (xs++[(k,a,v)])->gy d s.heap h'->Q v { s with heap:=h',toks:=s.toks+knd.draws k })
  (hsz:xs.length<=aj):wpAny (model prog w) A (dictSetDefault d (.ref a) v) Q E s:=by
 obtain⟨o,es,ep,ho,hc,hd,he,his,hn⟩:=hm;unfold dictSetDefault
 try with_reducible refine ji ?_
 refine am (knd.pyHash hu hkey ?_);refine am (wpAny_dictFind_heap (s:={ s with toks:=s.toks+knd.draws k }) hu hkey ho hd he his hn ?_ ?_)
 ·intro hno;have hnot:k∉xs.map (·.1):=not_mem_keys_of_get hno;refine am (l7 (am (wpAny_updateDictKeys (hz:=by have e:=size_of_entries he;omega) (s:={ s with toks:=s.toks+knd.draws k }) ho hd (aW (new (atKey_none_of_get hno) _ ⟨_,_,ep+1,jv _ ho (Obj.isFreed_of_dict (Obj.data_mapDictKeys hd _)),
   hc.mapDictKeys _,Obj.data_mapDictKeys hd _,?_,?_,?_⟩ (nn ..))))))
  ·simp[he,entryOfKey]
  ·intro x hx;rcases bO.mp hx with hx|hx
   ·exact knd.keeps (his x hx) ho hd (nn ..)
   ·simp only[List.mem_singleton]at hx;subst hx;exact knd.keeps hkey ho hd (nn ..)
  ·rw[aM,ef];refine⟨hn,by simp,?_⟩;intro x hx y hy;simp only[aS,List.map_nil,List.mem_singleton]at hy;subst hy;exact fun e=>hnot (e▸hx)
 ·intro j p hj;refine am (wpAny_dictEntries (s:={ s with toks:=s.toks+knd.draws k }) ho hd ?_);rw[entry_at he j,hj];exact am (l7 (aW (there p (atKey_of_get hn hj))))
theorem km(knd:HeapKind prog w K)(d a:Addr)(hd:(d==gA)=false)(dflt:Value):
  MeetsIn prog w (cD.«dict.setdefault» ⟨[.ref d,.ref a,dflt],[]⟩) (fun A R s=>knd.room A.in1/\∃k xs,knd.is s.heap k a/\s.heap.DictOfH knd d xs/\xs.length<=aj /\
   (∀p,atKey xs k=some p->R (.ok (.ret p.2)) { s with toks:=s.toks+knd.draws k }) /\
   (atKey xs k=none->∀h',h'.DictOfH knd d (xs++[(k,a,dflt)])->gy d s.heap h'->R (.ok (.ret dflt)) { s with heap:=h',toks:=s.toks+knd.draws k })) :=
 .of_wp fun A R s ⟨hu,k,xs,hkey,hm,hz,h1,h2⟩=>by
  unfold cD.«dict.setdefault»;refine am ?_;unfold cD.Dict.keyAndDefault;refine am (wpAny_notOrdered_dict hm.typeIs ?_);show wpAny _ _ (pure (d,Value.ref a,some dflt)) _ _ s;refine aW ?_;show wpAny _ _ (if(d==gA)=true then _ else(dictSetDefault d (.ref a) dflt >>= _)) _ _ s
  rw[if_neg (by rw[hd];exact gw)];exact am (nF hu hkey hm (fun p hp=>aW ⟨p.2,rfl,h1 p hp⟩) (fun hn h' hm' hs'=>aW ⟨dflt,rfl,h2 hn h' hm' hs'⟩) hz)
end
section
variable{X:Cx}
def v6:V->List V->Hp->VK->Prop:=fun x vs H Q=>∃(d b:Addr) (kvs:List (TK×V)) (k:TK) (z:V),x=.ref d/\vs=[.ref b,z]/\H d=some (.dT kvs)/\fJ H k (.ref b)/\k.depth<=8/\kvs.length<aj /\
 (∀v,cI kvs k=some v->Q v H)/\(cI kvs k=none->Q z (upd H d (.dT (kvs++[(k,z)]))))
theorem xH(hu:X.A.units+16<cLine):Dz X "dict.setdefault" v6:=by
 intro J3 s σ H x vs v us Q I rx rv h;obtain⟨d,b,kvs,k,z,rfl,rfl,hd,hb,h8,hz,q1,q2⟩:=h;cases rx;obtain⟨u,v,rfl,ru,rz⟩:=rv.two;cases ru;obtain⟨_,hsys,xs,rel,dd⟩:=By I.hok I.kIn hd;have hl:kvs.length=xs.length:=Paired.length rel;refine call_meetsIn PySem.F.slot_dict_setdefault dd.typeIs PySem.F.entry_dict_setdefault (PySem.F.args_dict_setdefault_3 _ _ _) (km (dE X.prog X.w) d b hsys v)
  ⟨fj hu,k,xs,u8 I.hok I.kIn (fJ.c 8 h8 hb) h8,dd,by omega,fun p hp=>?_,fun hn h' dd' hs=>?_⟩
 ·have e:=rel.val k;rw[hp]at e;cases e2:cI kvs k with
  |none=>rw[e2]at e;exact e.elim
  |some y =>
   rw[e2]at e;exact⟨y,H,I.tok _,e,q1 y e2⟩
 ·have e:=rel.val k;rw[hn]at e;have e2:cI kvs k=none:=by
   cases e2:cI kvs k with
   |none=>rfl
   |some y=>rw[e2]at e;exact e.elim
  obtain⟨o,es,ep,hq,h2,h3,h4,_,h5⟩:=dd';refine⟨z,_,rW (ob:=.dT (kvs++[(k,z)])) I (by rw[hd];exact dY) hs ⟨o,hq⟩ ⟨by rw[bd,List.length_singleton];omega,hsys,_,KT.keeps (kvs:=kvs++[(k,z)]) (xs:=xs++[(k,b,v)]) (qC rel ⟨rfl,fJ.c 8 h8 hb,h8,rz⟩) fun c ys ec=>?_,o,es,ep,hq,h2,h3,h4,h5⟩,rz,q2 e2⟩;rw[ai (Bv ec hd (fun z=>nomatch z))];exact ec
end
theorem iI:entryFor table "dict.update.loop"=some cD.«dict.update.loop»:=entryFor_of_fast (by kernel_rfl)
theorem dL:plainId "dict.update.loop"=true:=by decide +kernel
theorem rq:typeLookup (.type "list") "keys"=pure none:=am_miss_of_fast (by decide +kernel)
section
variable{prog:bj}{w:World}{A:Around}{E:Zc}{s:Shared}
theorem xI{a:Addr}{o:Obj}{xs:Array Value}{k:Nat}{Q:Option Value->Shared->Prop}(hx:s.heap.get? a=some o)(hc:o.cls=.type "list")(hdat:o.data=.seq xs k)(hd:o.dict=none)(hA:A.handled=none)
  (h:∀h' tk,(∀b ob,s.heap.get? b=some ob->h'.get? b=some ob)->Q none { s with heap:=h',toks:=tk }):wpAny (model prog w) A (getAttr? (.ref a) "keys") Q E s:=by
 obtain⟨c,dct,dat,sl⟩:=o;simp only at hc hdat hd;subst hc hdat hd;obtain⟨hp,g,d,tk,os⟩:=s;have hT:∀tk',(⟨hp,g,d,tk',os⟩:Shared).TypeIs (.ref a) "list":=fun _=>⟨_,hx,rfl⟩;have f1:=sub_AttributeError;have f3:=F.slot_list_getattribute.lookup;have f4:=F.slot_list_getattribute.bind (.ref a);have f5:=am_list_getattr_none;unfold getAttr? getAttrBy? getAttrBy
 repeat (any_goals (first|assumption|exact hT _|((with_reducible show wpAny _ _ (call (uf "list.__getattribute__") _ _) _ _ _);refine kU F.slot_list_getattribute (hT _) am_entry_list_getattribute (F.args_list_getattribute_2 _ _) (meets_getattribute_miss_list a xs k sl "keys" _ rq (by decide +kernel) (by decide +kernel)) ⟨hx,hA,fun h' tk' e hx'=>?_⟩)|wp_step))
 obtain⟨t',u',he⟩:=hx'.there;show wpAny _ _ (getattributeRaised _ _ _ _ _ _ _) _ _ _;unfold getattributeRaised hookOrError attributeErrorLeaves
 repeat (any_goals (first|assumption|wp_step))
 all_goals first|exact h _ _ hx'.keeps|trace_state
def vp(h:Heap)(u:Value)(kv:cG×Value):Prop:=∃t ku,u=.ref t/\h.IsTuple t #[ku,kv.2]/\bL kv.1 ku=true
theorem uD{κ:Type}[DecidableEq κ](kvs:List (κ×Value))(k:κ)(v:Value):(stored kvs k v).length<=kvs.length+1:=by
 unfold stored;split
 ·rw[ap];omega
 ·rw[bd,List.length_singleton];exact aD _
theorem yq{R:Result->Shared->Prop}(hh:A.handled=none){D it l:Addr}{items:Array Value}{ps:List (cG×Value)}(hDi:D≠it)(hli:l≠it)(hlD:l≠D)(hps:ps.length=items.size):
  ∀(n i:Nat) (s:Shared) (acc:List (cG×Value)),items.size-i=n->i<=items.size->acc.length+(items.size-i)<=aj->s.heap.IsListIter it l i->s.heap.IsList l items->s.heap.DictOf (bo prog w) D acc ->
   (∀(j:Nat) (u:Value) (kv:cG×Value),items[j]?=some u->ps[j]?=some kv->vp s.heap u kv) ->
   (∀h' tk,h'.DictOf (bo prog w) D (merged acc (ps.drop i))->(∀b o,b≠D->b≠it->s.heap.get? b=some o->h'.get? b=some o)->R (.ok (.ret .none)) { s with heap:=h',toks:=tk }) ->
   zzl76 (model prog w) A (.builtin "dict.update.loop" ⟨[.ref D,.ref it,rawInt i,.none],[]⟩) R s:=by
 intro n
 induction n with
 |zero =>
  intro i s acc hn hi hz hit hl hD hp hR;have e:i=items.size:=by omega
  subst e;refine codeAny_builtin iI ?_;rw[Around.under_plainId dL _];show wpAny _ A.in1 (pyNext (.ref it) >>= _) _ _ s;refine am (wpAny_pyNext_list_end hh hit hl (by simp) fun h' eb=>?_);show wpAny _ _ (cD.Dict.addKeywords D [] >>= _) _ _ _;refine am (aW (aW ?_));have hD':h'.DictOf (bo prog w) D acc:=hD.extBut eb hDi;have q:=hR h' s.toks (by rw[kM (by omega)];exact hD') fun b o _ hb e=>eb b o hb e;exact q
 |succ n ih =>
  intro i s acc hn hi hz hit hl hD hp hR;have hlt:i<items.size:=by omega
  refine codeAny_builtin iI ?_;rw[Around.under_plainId dL _];show wpAny _ A.in1 (pyNext (.ref it) >>= _) _ _ s;have hu:items[i]?=some items[i]:=by simp[hlt]
  have hk:ps[i]?=some ps[i]:=qj (by omega);obtain⟨t,ku,eu,ht,hku⟩:=hp i _ _ hu hk;refine am (wpAny_pyNext_list_item hit hl (x:=items[i]) hu fun h1 hit1 hs1=>?_);rw[eu];have hs1':gy it s.heap h1:=hs1;have nt:t≠it:=by
   rintro rfl;obtain⟨o,ho,hc,_⟩:=ht;obtain⟨o',ho',hc',_⟩:=hit;rw[ho]at ho';cases ho';rw[hc]at hc';simp at hc'
  have ht1:h1.IsTuple t #[ku,ps[i].2]:=ht.extBut hs1'.extBut nt;have hT1:Shared.TypeIs { s with heap:=h1 } (.ref t) "tuple":=ht1.typeIs (s:={ s with heap:=h1 });obtain⟨ot,got,hct,nt',hdt⟩:=id ht1;refine am (ji ?_);refine am (wpAny_tryCatch ?_);unfold cD.Dict.pairItems;refine am (wpAny_typeOf hT1 ?_);rw[if_pos (by decide)];refine am (jh got hdt (aW ?_));show wpAny _ _ (lY [ku,ps[i].2] (dictSet D ku ps[i].2)) _ _ _;have hD1:h1.DictOf (bo prog w) D acc:=hD.extBut hs1'.extBut hDi;refine ji (wpAny_dictSet_pairs (knd:=bo prog w) (k:=ps[i].1) hku hD1 (fun h2 hD2 hs2=>?_) (by omega));have hs2':gy D h1 h2:=hs2;show wpAny _ _ (again _) _ _ _;refine aW ⟨plainId_quiet dL _,?_⟩;have hl1:h1.IsList l items:=hl.extBut hs1'.extBut hli;have kp:∀b o,b≠D->b≠it->s.heap.get? b=some o->h2.get? b=some o:=fun b o h1 h2 e=>hs2'.extBut b o h1 (hs1'.extBut b o h2 e);refine ih (i+1) _ (stored acc ps[i].1 ps[i].2) (by omega) hlt (by have:=uD acc ps[i].1 ps[i].2;omega) (hit1.extBut hs2'.extBut (cO hDi)) (hl1.extBut hs2'.extBut hlD) hD2 (fun j u kv h1 h2=>?_) fun h' tk hD' kp'=>?_
  ·obtain⟨t2,ku2,e2,ht2,hk2⟩:=hp j u kv h1 h2;have n1:t2≠it:=by
    rintro rfl;obtain⟨o,ho,hc,_⟩:=ht2;obtain⟨o',ho',hc',_⟩:=hit;rw[ho]at ho';cases ho';rw[hc]at hc';simp at hc'
   have n2:t2≠D:=by
    rintro rfl;obtain⟨o,ho,hc,_⟩:=ht2;obtain⟨o',_,_,ho',hc',_⟩:=hD;rw[ho]at ho';cases ho';have:=hc'.1;rw[hc]at this;simp at this
   obtain⟨o,ho,r⟩:=ht2;exact⟨t2,ku2,e2,⟨o,kp _ o n2 n1 ho,r⟩,hk2⟩
  ·refine hR h' tk ?_ fun b o h1 h2 e=>kp' b o h1 h2 (kp b o h1 h2 e);have ed:ps.drop i=ps[i]::ps.drop (i+1):=List.drop_eq_getElem_cons (by omega);rw[ed];exact hD'
theorem mD{l:Addr}{o:Obj}{items:Array Value}{n:Nat}{ps:List (cG×Value)}{Q:Zc}(hh:A.handled=none)(ho:s.heap.get? l=some o)(hc:o.cls=.type "list")(hdt:o.data=.seq items n)(hod:o.dict=none)
  (hps:ps.length=items.size) (hp:∀(j:Nat) (u:Value) (kv:cG×Value),items[j]?=some u->ps[j]?=some kv->vp s.heap u kv) (hz:items.size<=aj)
  (h:∀h' tk,h'.DictOf (bo prog w) s.heap.objs.size (merged [] ps)->(∀b o,s.heap.get? b=some o->h'.get? b=some o)->Q (.ref s.heap.objs.size) { s with heap:=h',toks:=tk }) :
  wpAny (model prog w) A (call (.type "dict") [.ref l]) Q E s:=by
 refine callType_codes (Q₁:=fun obj s₁=>obj=.ref s.heap.objs.size/\s₁={ s with heap:=s.heap.push { cls:=.type "dict",data:=.dict #[] } }) F.kt_called_dict (F.kt_typeCall_dict_1 _) F.entry_dict_init (kt_code_dict_new _ ⟨rfl,rfl⟩) ?_;rintro obj s₁ ⟨rfl,rfl⟩;have hnew:(s.heap.push { cls:=.type "dict",data:=.dict #[] }).DictOf (bo prog w) s.heap.objs.size []:=Heap.DictOf.new s.heap;have ho1:(s.heap.push { cls:=.type "dict",data:=.dict #[] }).get? l=some o:=aQ _ ho;have hlt:l<s.heap.objs.size:=aE ho;refine⟨hnew.typeIs,F.args_dict_init_2 _ _,?_⟩;unfold cD.«dict.__init__»;refine am ?_;unfold cD.Dict.selfAndRest;refine am (wpAny_notOrdered_dict hnew.typeIs ?_);show wpAny _ _ (pure (s.heap.objs.size,[Value.ref l])) _ _ _;refine aW ?_;show wpAny _ _ (cD.Dict.updateFrom "dict.__init__" s.heap.objs.size (.ref l) [] .none) _ _ _;unfold cD.Dict.updateFrom;have hTl:Shared.TypeIs { s with heap:=s.heap.push { cls:=.type "dict",data:=.dict #[] } } (.ref l) "list":=⟨o,ho1,hc⟩;refine am (wpAny_typeOf hTl ?_);rw[if_pos (by decide)];refine am (xI ho1 hc hdt hod hh fun h1 tk1 k1=>?_);have k1':∀b ob,(s.heap.push { cls:=.type "dict",data:=.dict #[] }).get? b=some ob->h1.get? b=some ob:=k1;rw[if_pos (by rfl:(none:Option Value).isNone=true)];refine am (l7 ?_);have hl1:h1.IsList l items:=⟨o,k1' _ _ ho1,hc,n,hdt⟩;refine am (vL (s:={ s with heap:=h1,toks:=tk1 }) hl1 ?_);have hD1:h1.DictOf (bo prog w) s.heap.objs.size []:=by
  obtain⟨od,es,ep,g,r⟩:=hnew;exact⟨od,es,ep,k1' _ _ g,r⟩
 have hDlt:s.heap.objs.size<h1.objs.size:=by
  obtain⟨od,es,ep,g,r⟩:=hD1;exact aE g
 refine aW ⟨plainId_quiet dL _,?_⟩;refine yq (A:=A.in1) (prog:=prog) (w:=w) hh (D:=s.heap.objs.size) (it:=h1.objs.size) (l:=l) (items:=items) (ps:=ps) (bP hDlt) (bP (Nat.lt_trans hlt hDlt)) (bP hlt) hps items.size 0 _ [] (qi _) (cy _) (by rw[List.length_nil];omega)
  ⟨_,cz _ rfl,rfl,rfl⟩ (hl1.push _) (hD1.push _) (fun j u kv a b=>?_) fun h' tk hD' kp=>?_
 ·obtain⟨t,ku,e,ht,hk⟩:=hp j u kv a b;obtain⟨ot,g,r⟩:=ht;exact⟨t,ku,e,⟨ot,aQ _ (k1' _ _ (aQ _ g)),r⟩,hk⟩
 ·rw[kO]at hD';refine⟨rfl,h h' tk hD' fun b ob e=>kp b ob (bP (aE e)) (bP (Nat.lt_trans (aE e) hDlt)) (aQ _ (k1' _ _ (aQ _ e)))⟩
end
section
variable{X:Cx}
theorem r9(hc:X.calm=true):eP X (.type "dict") (fun xs H Q=>∃(l:Addr) (ts:Ze) (kvs:List (cG×V)),xs=[.ref l]/\aA X.K H l (ts.map V.ref)/\ts.length=kvs.length /\
  (∀(j:Nat) (t:Addr) (kv:cG×V),ts[j]?=some t->kvs[j]?=some kv->H t=some (.tup [kV kv.1,kv.2]))/\∀p,H p=none->Q (.ref p) (upd H p (.dK (gm [] kvs)))):=by
 intro J3 s σ H xs us Q I r h;obtain⟨l,ts,kvs,rfl,hl,hlen,ht,q⟩:=h;obtain⟨u,rfl,ru⟩:=vals1 r;cases ru;obtain⟨its,rv,⟨o,n,ho,hcl,hod,hdt⟩,hz⟩:=I.list hl;have key:∀(ts:Ze) (kvs:List (cG×V)),ts.length=kvs.length->(∀(j:Nat) (t:Addr) (kv:cG×V),ts[j]?=some t->kvs[j]?=some kv->H t=some (.tup [kV kv.1,kv.2]))->∃ps:List (cG×Value),KV kvs ps/\∀(j:Nat) (t:Addr) (kv:cG×Value),ts[j]?=some t->ps[j]?=some kv->vp s.heap (.ref t) kv:=by
  intro ts
  induction ts with
  |nil =>
   intro kvs hl _;cases kvs with
   |nil=>exact⟨[],.nil,fun j t kv e=>by simp at e⟩
   |cons _ _=>cases hl
  |cons t ts ih =>
   intro kvs hl ht;cases kvs with
   |nil=>cases hl
   |cons kv kvs =>
    obtain⟨ps,r1,r2⟩:=ih kvs (by simpa using hl) fun j t' kv' a b=>ht (j+1) t' kv' (by simpa using a) (by simpa using b);obtain⟨_,itt,rt,p⟩:=(show bS X.prog X.w X.K H s.heap t (.tup [kV kv.1,kv.2])from I.hok t _ (ht 0 t kv rfl rfl));obtain⟨a,b,e,ra,rb⟩:=rt.two;subst e;refine⟨(kv.1,b)::ps,.cons ⟨rfl,rb⟩ r1,fun j t' kv' h1 h2=>?_⟩;cases j with
    |zero =>
     simp at h1 h2;subst h1 h2;exact⟨t,a,rfl,p,ib (P:=X.prog) (w:=X.w) ra⟩
    |succ j=>exact r2 j t' kv' (by simpa using h1) (by simpa using h2)
 obtain⟨ps,rel,pa⟩:=key ts kvs hlen ht;have hl1:=rv.length;rw[ap]at hl1;have hl2:=rel.length;refine mD (prog:=X.prog) (w:=X.w) (ps:=ps) (I.ok.hd hc) ho hcl hdt hod (by rw[bD];omega) (fun j u kv a b=>?_) (by rw[bD,<-hl1];rw[ap]at hz;exact hz) fun h' tk hD kp=>?_
 ·have a':its[j]?=some u:=by simpa using a
  have hj:j<ts.length:=by
   have:=(db.mp a').1;omega
  obtain⟨u',e1,r1⟩:=rv.get (i:=j) (x:=V.ref ts[j]) (by simp[hj]);rw[a']at e1;cases e1;cases(show u=Value.ref ts[j]from r1);exact pa j ts[j] kv (by simp[hj]) b
 ·have hm:(gm [] kvs).length<=aj:=by
   have h1:=jm kvs [];rw[List.length_nil]at h1;rw[ap]at hz;omega
  exact⟨.ref s.heap.objs.size,_,I.laid (o:=.dK (gm [] kvs)) kp (aD _) (zJ hm (beq_eq_false_iff_ne.mpr (cO (bP I.big))) (rel.merge .nil) hD),rfl,q _ I.fresh⟩
end
abbrev d_:R2:=yi fun i j=>.int (i+j)
abbrev iA:R2:=rI z8 fun i j=>.int (i * j)
abbrev fZ:R2:=rI (fun _ j=>0<j) fun i j=>.int (i % j)
abbrev yX:R2:=rI DH fun i j=>.int (i / j)
abbrev Bp:R2:=rI DG fun i j=>.int (i ^ j.toNat)
abbrev Az:R2:=yi fun i j=>.bl (decide (i<j))
abbrev rLeI:R2:=yi fun i j=>.bl (decide (i<=j))
abbrev B0:R2:=yi fun i j=>.bl (decide (j<i))
abbrev rGeI:R2:=yi fun i j=>.bl (decide (j<=i))
abbrev f6:R2:=fun x y H Q=>∃i j,x=.str i/\y=.str j/\i.length+j.length<=aj/\Q (.str (i++j)) H
abbrev rInS:R2:=fun x y H Q=>∃c j,x=.str ⟨#[c]⟩/\y=.str j/\Q (.bl (decide (c∈j.cps.toList))) H
abbrev mC(K:Za):List V->Hp->VK->Prop:=fun xs H Q=>∃x c t b,xs=[x,.ty c]/\TyX K H x t/\sC K t (.type c)=some b/\Q (.bl b) H
abbrev yY(K:Za):List V->Hp->VK->Prop:=fun xs H Q=>∃(p:Addr) (bs:List Bool),xs=[.ref p]/\aA K H p (bs.map V.bl)/\Q (.bl (bs.all id)) H
abbrev C5(K:Za):List V->Hp->VK->Prop:=fun xs H Q=>∃p ys,xs=[.ref p]/\((aA K H p ys/\∀l,H l=none->Q (.ref l) (upd H l (.tup ys)))∨(bN K H p ys/\Q (.ref p) H))
abbrev AB(K:Za):List V->Hp->VK->Prop:=fun xs H Q=>∃(l:Addr) (ts:Ze) (kvs:List (cG×V)),xs=[.ref l]/\aA K H l (ts.map V.ref)/\ts.length=kvs.length /\
  (∀(j:Nat) (t:Addr) (kv:cG×V),ts[j]?=some t->kvs[j]?=some kv->H t=some (.tup [kV kv.1,kv.2]))/\∀p,H p=none->Q (.ref p) (upd H p (.dK (gm [] kvs)))
abbrev cJ(K:Za):List V->Hp->VK->Prop:=fun xs H Q =>
 (∃p ys,xs=[.ref p]/\(aA K H p ys∨bN K H p ys)/\∀l,H l=none->Q (.ref l) (upd H l (.lst ys))) ∨
 (∃(d:Addr) (kvs:List (cG×V)),xs=[.ref d]/\Rd H d (.dK kvs)/\∀l,H l=none->Q (.ref l) (upd H l (.lst (kvs.map fun kv=>kV kv.1))))
abbrev dX(K:Za):List V->Hp->VK->Prop:=fun xs H Q =>
 (∃p ys,xs=[.ref p]/\(aA K H p ys∨bN K H p ys)/\Q (.int ys.length) H)∨(∃z,xs=[.str z]/\z.length<=aj/\Q (.int z.length) H)
theorem cW:fS "isinstance"=some (.builtin "isinstance"):=by decide +kernel
theorem oG:fS "list"=some (.type "list"):=by decide +kernel
theorem ml:fS "tuple"=some (.type "tuple"):=by decide +kernel
theorem vn:fS "dict"=some (.type "dict"):=by decide +kernel
theorem vo:fS "bool"=some (.type "bool"):=by decide +kernel
theorem xZ:fS "int"=some (.type "int"):=by decide +kernel
theorem xY:fS "str"=some (.type "str"):=by decide +kernel
section
variable{X:Cx}{p pos:Pos}
theorem xX:eP X (.builtin "len") (dX X.K):=r8.or rZ
theorem vm(hc:X.calm=true):eP X (.type "list") (cJ X.K):=rY.or (oF hc)
theorem jH(hg:Gl X "bool")(hm:X.mg "bool"=none):PE X (.Name "bool" pos) (tC (.ty "bool")):=kh hg hm vo rfl
theorem pP(hg:Gl X "int")(hm:X.mg "int"=none):PE X (.Name "int" pos) (tC (.ty "int")):=kh hg hm xZ rfl
theorem pO(hg:Gl X "str")(hm:X.mg "str"=none):PE X (.Name "str" pos) (tC (.ty "str")):=kh hg hm xY rfl
theorem nZ(hg:Gl X "list")(hm:X.mg "list"=none):PE X (.Name "list" pos) (tC (.ty "list")):=kh hg hm oG rfl
theorem l9(hg:Gl X "tuple")(hm:X.mg "tuple"=none):PE X (.Name "tuple" pos) (tC (.ty "tuple")):=kh hg hm ml rfl
end
def Gc(mg:Str->Option Value)(x:Str)(v:V):Prop:=∃u,mg x=some u/\RelV v u
theorem gE{X:Cx}{x:Str}{v:V}{pos:Pos}(hg:Gl X x)(h:Gc X.mg x v)(hd:(x==("__debug__":Str))=false:=by decide):PE X (.Name x pos) (tC v):=by
 obtain⟨u,hm,r⟩:=h;exact AJ hg hm r hd
structure ic(P:bj)(w:World)(K:Za)(mg:Str->Option Value)(base:Heap)(x:Str)(ps:Zb)(k:Nat)(sp:Sp):Prop where
 ex:∃f fd,jg P w K mg base CX0 k f fd ps sp/\mg x=some (.ref f)/\e_ K (.ref f)=true/\Binds K fd ps []
structure New(P:bj)(w:World)(K:Za)(mg:Str->Option Value)(base:Heap)(x:Str)(C:Addr)(ps:Zb)(k:Nat)(sp:Sp):Prop where
 ex:∃f fd,jg P w K mg base CX0 k f fd ps sp/\mg x=some (.ref C)/\Mk K C f/\Binds K fd ps []
structure CF(P:bj)(w:World)(K:Za)(mg:Str->Option Value)(base:Heap)(C:Addr)(m:Str)(ps:Zb)(k:Nat)(sp:Sp):Prop where
 ex:∃f fd,jg P w K mg base CX0 k f fd ps sp/\yk K C/\CG K C m f/\Binds K fd ps []
section
variable{X:Cx}{k:Nat}{ps:Zb}{sp:Sp}{x m:Str}{C:Addr}{p pos J5:Pos}{o e:Expr}{es:List Expr}{t:TA}{ta:TE}
theorem Bt(D:ic X.prog X.w X.K X.mg X.base x ps k sp)(hr:dw k X.A)(hg:Gl X x)(ha:PA X (e::es) t)(hdb:(x==("__debug__":Str))=false:=by decide)
  (he:aG (e::es) X.env=(false,eval e X.env)::aG es X.env:=by rfl) (hpl:(backTo pos (aG es X.env)).any (·.1)=false:=by rfl) :
  PE X (.Call (.Name x p) (e::es) [] pos) (aZ sp t):=by
 obtain⟨f,fd,F,hm,hk,hb⟩:=D.ex;exact AL F hr hg hm hk hb .nil y6 ha hdb he hpl
theorem y1(D:New X.prog X.w X.K X.mg X.base x C ps k sp)(hr:dw (k+1) X.A)(hg:Gl X x)(ha:PA X (e::es) t)(hdb:(x==("__debug__":Str))=false:=by decide)
  (he:aG (e::es) X.env=(false,eval e X.env)::aG es X.env:=by rfl) (hpl:(backTo pos (aG es X.env)).any (·.1)=false:=by rfl) :
  PE X (.Call (.Name x p) (e::es) [] pos) (vY C sp [] E0 t):=by
 obtain⟨f,fd,F,hm,M,hb⟩:=D.ex;exact AI M F hr hg hm hb .nil y6 ha hdb he hpl
theorem AH{pl:Sem Bool}(M:CF X.prog X.w X.K X.mg X.base C m ps k sp)(hr:dw k X.A)(he:PE X o ta)
  (ht:eval (.Call (.Attribute o m J5) [] [] pos) X.env=(do
   let ov <- eval o X.env
   sJ J5.atName
   let(f,first) <- lY [ov] (sE ov m pl)
   callWith pos f first (backTo pos (aG [] X.env)) (sB pos (sA [] X.env))):=by rfl) :
  PE X (.Call (.Attribute o m J5) [] [] pos) (gB C m sp [] E0 ta bz):=by
 obtain⟨f,fd,F,c,hm,hb⟩:=M.ex;exact y2 he c hm F hr hb .nil y6 ht
end
def Dj(K:Za)(tl:TE):TI:=fun σ H R=>tl σ H fun x H1=>∃a,x=.ref a/\(((∃xs,aA K H1 a xs)/\R (BH K a) H1)∨((∃xs,bN K H1 a xs)/\R (CP K a) H1))
theorem B5{X:Cx}{tg l:Expr}{tl:TE}(hl:PE X l tl):PI X tg l (Dj X.K tl):=by
 intro J3 s σ H R I h;refine bV (hl J3 s σ H _ I h) fun v s1 ⟨x,H1,I1,r1,q1⟩=>?_;obtain⟨a,e,q⟩:=q1;subst e;cases r1;have fin:∀b∈[s1.heap.objs.size],jU X J3 H1 b:=fun b hb=>by
  have e:b=s1.heap.objs.size:=by simpa using hb
  subst e;exact I1.fpOk (aD _) (I1.hok.fresh (aD _))
 rcases q with⟨⟨xs,hq⟩,q⟩|⟨⟨xs,hq⟩,q⟩
 ·obtain⟨its,rv,p,hz⟩:=I1.list hq;refine vL p.isList ?_;exact⟨s1.heap.objs.size,[s1.heap.objs.size],_,_,H1,rfl,I1.kept (t':=s1.toks) fun b o e=>aQ _ e,pD a _,⟨_,cz _ rfl,rfl,rfl⟩,fin,q⟩
 ·obtain⟨its,rv,p,hz⟩:=I1.tuple hq;refine vK p ?_;exact⟨s1.heap.objs.size,[s1.heap.objs.size],_,_,H1,rfl,I1.kept (t':=s1.toks) fun b o e=>aQ _ e,nG a _,⟨_,cz _ rfl,rfl,rfl⟩,fin,q⟩
theorem gH{K:Za}{a:Addr}{xs:List V}{g:TG}{tb:TS}{D:fK}{σ:St}{H:Hp}(Pv:Nat->St->Hp->Prop)(h0:Pv 0 σ H)(hl:∀i σ H,i<=xs.length->Pv i σ H->aA K H a xs)
  (hs:∀i x σ H p,xs[i]?=some x->Pv i σ H->H p=none->g (.ref p) σ (upd H p (.tup [.int i,x])) fun σ2 H2=>tb { D with nx:=Pv (i+1),ct:=Pv (i+1),bk:=D.nx } σ2 H2) (hd:∀σ H,Pv xs.length σ H->D.nx σ H) :
  ∃W:Nat->Nat->St->Hp->Prop,(∃m,W 0 m σ H)/\∀i m σ H,W i m σ H ->
   ((DB K a).stop i H/\D.nx σ H)∨((DB K a).go i H/\∃N:St->Hp->Prop,(∀σ' H',N σ' H'->∃m',m'<m/\W (i+1) m' σ' H')/\∀x H',(DB K a).yld i H x H'->g x σ H' fun σ2 H2=>tb { D with nx:=N,ct:=N,bk:=D.nx } σ2 H2):=by
 refine⟨fun i m σ H=>m=xs.length-i/\i<=xs.length/\Pv i σ H,⟨xs.length,by simp,cy _,h0⟩,?_⟩;rintro i m σ H ⟨rfl,hi,p⟩;have q:=hl i σ H hi p;by_cases hlt:i<xs.length
 ·refine .inr ⟨⟨xs,xs[i],q,by simp[hlt]⟩,Pv (i+1),fun σ' H' p'=>⟨xs.length-(i+1),by omega,rfl,hlt,p'⟩,fun x H' y=>?_⟩;obtain⟨t,v,rfl,hn,hv,rfl⟩:=y;exact hs i v σ H t (hv xs q) p hn
 ·have e:i=xs.length:=by omega
  subst e;exact .inl ⟨⟨xs,q,aD _⟩,hd σ H p⟩
def Wc(n:Nat)(Pv:Nat->List V->Hp->Prop):Nat->Nat->List V->Hp->Prop:=fun i m vs H=>m=n-i/\i<=n/\Pv i vs H
theorem xG{n i:Nat}{Pv:Nat->List V->Hp->Prop}{vs:List V}{H:Hp}(hi:i<n)(p:Pv (i+1) vs H):∃m',m'<n-i/\Wc n Pv (i+1) m' vs H:=⟨n-(i+1),by omega,rfl,hi,p⟩
abbrev iP(k:Nat)(fi:List Nat)(σ:St)(J:It)(g:TG)(tc:TT)(te:TE)(H1:Hp)(l:Addr)(Q:Hp->Prop):Prop :=
 ∃W:Nat->Nat->List V->Hp->Prop,(∃m,W 0 m [] (upd H1 l (.lst [])))/\∀i m vs H2,W i m vs H2->H2 l=some (.lst vs) /\
  ((J.stop i H2/\Q H2)∨(J.go i H2/\∀x H3,J.yld i H2 x H3->g x (cM k fi σ) H3 fun σ2 H4=>tc σ2 H4 fun b H5 =>
   if b=true then te σ2 H5 fun v H6=>H6 l=some (.lst vs)/\vs.length<aj/\∃m',m'<m/\W (i+1) m' (vs++[v]) (upd H6 l (.lst (vs++[v])))else ∃m',m'<m/\W (i+1) m' vs H5))
theorem kC{k:Nat}{fi:List Nat}{J:It}{g:TG}{tc:TT}{te:TE}{σ:St}{H1:Hp}{Q:Hp->Prop}{l:Addr}(n:Nat)(Pv:Nat->List V->Hp->Prop)(h0:Pv 0 [] (upd H1 l (.lst [])))
  (hl:∀i vs H,i<=n->Pv i vs H->H l=some (.lst vs)) (hgo:∀i vs H,i<n->Pv i vs H->J.go i H) (hst:∀vs H,Pv n vs H->J.stop n H/\Q H)
  (hs:∀i vs H x H3,i<n->Pv i vs H->J.yld i H x H3->g x (cM k fi σ) H3 fun σ2 H4=>tc σ2 H4 fun b H5 =>
   if b=true then te σ2 H5 fun v H6=>H6 l=some (.lst vs)/\vs.length<aj/\∃m',m'<n-i/\Wc n Pv (i+1) m' (vs++[v]) (upd H6 l (.lst (vs++[v])))else ∃m',m'<n-i/\Wc n Pv (i+1) m' vs H5) :
  iP k fi σ J g tc te H1 l Q:=by
 refine⟨Wc n Pv,⟨n,by simp[Wc],cy _,h0⟩,?_⟩;rintro i m vs H ⟨rfl,hi,p⟩;refine⟨hl i vs H hi p,?_⟩;by_cases hlt:i<n
 ·exact .inr ⟨hgo i vs H hlt p,fun x H3 y=>hs i vs H x H3 hlt p y⟩
 ·have e:i=n:=by omega
  subst e;exact .inl (hst vs H p)
section
variable{K:Za}{k:Nat}{fi:List Nat}{g:TG}{tc:TT}{te:TE}{σ:St}{H1:Hp}{Q:Hp->Prop}{l:Addr}
theorem em{a:Addr}{xs:List V}(Pv:Nat->List V->Hp->Prop)(h0:Pv 0 [] (upd H1 l (.lst [])))
  (hl:∀i vs H,i<=xs.length->Pv i vs H->H l=some (.lst vs)/\aA K H a xs) (hd:∀vs H,Pv xs.length vs H->Q H)
  (hs:∀i vs H x,xs[i]?=some x->i<xs.length->Pv i vs H->g x (cM k fi σ) H fun σ2 H4=>tc σ2 H4 fun b H5 =>
   if b=true then te σ2 H5 fun v H6=>H6 l=some (.lst vs)/\vs.length<aj/\∃m',m'<xs.length-i/\Wc xs.length Pv (i+1) m' (vs++[v]) (upd H6 l (.lst (vs++[v])))else ∃m',m'<xs.length-i/\Wc xs.length Pv (i+1) m' vs H5) :
  iP k fi σ (BH K a) g tc te H1 l Q:=by
 refine kC xs.length Pv h0 (fun i vs H hi p=>(hl i vs H hi p).1) (fun i vs H hi p=>⟨xs,xs[i],(hl i vs H (fR hi) p).2,by simp[hi]⟩) (fun vs H p=>⟨⟨xs,(hl _ vs H (aD _) p).2,aD _⟩,hd vs H p⟩) fun i vs H x H3 hi p y=>?_;obtain⟨rfl,y⟩:=y;exact hs i vs _ x (y xs (hl i vs _ (fR hi) p).2) hi p
theorem oz{lo:Int}{n:Nat}(Pv:Nat->List V->Hp->Prop)(h0:Pv 0 [] (upd H1 l (.lst [])))
  (hl:∀i vs H,i<=n->Pv i vs H->H l=some (.lst vs)) (hd:∀vs H,Pv n vs H->Q H)
  (hs:∀i vs H,i<n->Pv i vs H->g (.int (lo+i)) (cM k fi σ) H fun σ2 H4=>tc σ2 H4 fun b H5 =>
   if b=true then te σ2 H5 fun v H6=>H6 l=some (.lst vs)/\vs.length<aj/\∃m',m'<n-i/\Wc n Pv (i+1) m' (vs++[v]) (upd H6 l (.lst (vs++[v])))else ∃m',m'<n-i/\Wc n Pv (i+1) m' vs H5) :
  iP k fi σ (CH lo n) g tc te H1 l Q:=by
 refine kC n Pv h0 hl (fun i vs H hi p=>hi) (fun vs H p=>⟨aD _,hd vs H p⟩) fun i vs H x H3 hi p y=>?_;obtain⟨rfl,rfl⟩:=y;exact hs i vs _ hi p
theorem zT{x:Str}(Pv:Nat->List V->Hp->Prop)(h0:Pv 0 [] (upd H1 l (.lst [])))
  (hl:∀i vs H,i<=x.cps.size->Pv i vs H->H l=some (.lst vs)) (hd:∀vs H,Pv x.cps.size vs H->Q H)
  (hs:∀i vs H c,x.cps[i]?=some c->i<x.cps.size->Pv i vs H->g (.str ⟨#[c]⟩) (cM k fi σ) H fun σ2 H4=>tc σ2 H4 fun b H5 =>
   if b=true then te σ2 H5 fun v H6=>H6 l=some (.lst vs)/\vs.length<aj/\∃m',m'<x.cps.size-i/\Wc x.cps.size Pv (i+1) m' (vs++[v]) (upd H6 l (.lst (vs++[v])))else ∃m',m'<x.cps.size-i/\Wc x.cps.size Pv (i+1) m' vs H5) :
  iP k fi σ (DS x) g tc te H1 l Q:=by
 refine kC x.cps.size Pv h0 hl (fun i vs H hi p=>hi) (fun vs H p=>⟨aD _,hd vs H p⟩) fun i vs H y H3 hi p yl=>?_;obtain⟨rfl,c,hc,rfl⟩:=yl;exact hs i vs _ c hc hi p
end
theorem gN{j:Nat}{x:V}{σ:St}{H:Hp}{Q:St->Hp->Prop}(h:Q (σ.set j (some x)) H):cF j x σ H Q:=h
theorem qH{σ:St}{H:Hp}{A B:Hp->Prop}(h:A H):gS σ H (fun b H5=>if b=true then A H5 else B H5):=by
 show(if(true:Bool)=true then A H else B H)
 exact h
theorem Obj.mapF{o:Obj}{vs:Array Value}(hd:o.data=.fields vs)(f:Array Value->Array Value):o.mapFields f={ o with data:=.fields (f vs) }:=by
 obtain⟨c,d,dt,sl⟩:=o;cases hd
 rfl
structure CI(fs:Ze)(e:Addr)(T:Option Addr)(h h':Heap):Prop where
 keep:∀b o,h.get? b=some o->b≠e->some b≠T->b∉fs->h'.get? b=some o
 slot:∀b o,h.get? b=some o->b≠e->some b≠T->b∈fs->∃sl,h'.get? b=some { o with slots:=sl }
 there:∀b o,h.get? b=some o->∃o',h'.get? b=some o'
def Trc(n:Nat)(h:Heap)(e:Addr)(vs:Array Value)(T:Option Addr):Prop :=
 (vs[1]?=some .none/\T=none)∨∃t oT ts,T=some t/\vs[1]?=some (.ref t)/\n<=t/\t≠e/\h.get? t=some oT/\oT.data=.fields ts/\ts[3]?=some .none
def lM(a C:Addr)(od:Option Addr):Heap->Prop:=fun h=>∃vs,h.get? a=some { cls:=.ref C,dict:=od,data:=.fields vs }/\1<vs.size
theorem xR{P:bj}{w:World}{K:Za}{H:Hp}{h:Heap}{a C:Addr}{od:Option Addr}{vs:Array Value}(e:h.get? a=some { cls:=.ref C,dict:=od,data:=.fields vs })(z:1<vs.size):bS P w K H h a (.ext (lM a C od)) :=
 ⟨⟨vs,e,z⟩,⟨_,e⟩,fun _ _ ⟨us,q,y⟩ k=>⟨us,k _ q,y⟩⟩
structure p_(n:Nat)(h:Heap)(H:Hp)(a C:Addr)(od:Option Addr):Prop where
 trk:H a=some (.ext (lM a C od))
 new:n<=a
 tr:∃vs T,h.get? a=some { cls:=.ref C,dict:=od,data:=.fields vs }/\1<vs.size/\Trc n h a vs T/\∀t,T=some t->H t=none
theorem zt{P:bj}{w:World}{K:Za}{H:Hp}{h h':Heap}{fs:Ze}{a C:Addr}{od T:Option Addr}{vs':Array Value}(ok:iL P w K H h)(ha:H a=some (.ext (lM a C od)))(hT:∀t,T=some t->H t=none)(hfs:∀b∈fs,H b=none)
  (fl:CI fs a T h h') (e':h'.get? a=some { cls:=.ref C,dict:=od,data:=.fields vs' }) (z:1<vs'.size):iL P w K H h':=fun b u q=>by
 by_cases hb:b=a
 ·subst hb;rw[ha]at q;cases q;exact xR e' z
 ·have go:∀c o v,H c=some v->c≠a->h.get? c=some o->h'.get? c=some o:=fun c o v hc na g =>
   fl.keep c o g na (fun z=>by rw[hT c z.symm]at hc;cases hc) fun z=>by rw[hfs c z]at hc;cases hc
  refine(ok b u q).stay (fun c o hc g=>?_) (fun _ r=>r) fun _ _ r=>r;rcases hc with rfl|hc
  ·exact go c o u q hb g
  ·exact go c o _ hc (fun z=>by rw[z,ha]at hc;cases hc) g
structure oH(X:Cx)(J3:Zd)(n:Nat):Prop where
 s0:X.s₀.heap.objs.size<=n
 loc:X.env.locals<n
 cell:∀x c,X.env.cells.lookup x=some c->c<n
 pin:∀p∈X.pn++J3,p.1<n
abbrev iu:List Value:=[.type "ValueError",.type "Exception",.type "BaseException",.type "object"]
inductive gq:List Value->Prop
 |base:gq iu
 |own {a:Addr}{r:Zf}:gq r->gq (.ref a::r)
theorem gq.has{l:Zf}(x:gq l){n:String}{b:Bool}(e:iu.contains (.type n)=b):l.contains (.type n)=b:=by
 induction x with
 |base=>exact e
 |own _ ih=>rw[List.contains_cons,ih];rfl
structure zY(K:Za)(C:Addr):Prop where
 obj:∃nm q N bs bm sn sub ab col dd k0 k1 k2 k3 k5,K.lookup C=some (ng nm q C N bs bm true sn sub ab col dd k0 k1 k2 k3 k5 "ValueError.__new__")/\gq bm
 sa:bx K (.ref C) "__setattr__"=some (some (.builtin "object.__setattr__"))
 ga:bx K (.ref C) "__getattribute__"=some (some (.builtin "BaseException.__getattribute__"))
 gx:bx K (.ref C) "__getattr__"=some none
theorem zY.cd{K:Za}{C:Addr}(c:zY K C):∃cd,PySem.W.clsIn K C=some cd/\gq cd.mro/\cd.hasDict=true:=by
 obtain⟨nm,q,N,bs,bm,sn,sub,ab,col,dd,k0,k1,k2,k3,k5,e,v⟩:=c.obj;exact⟨_,by unfold PySem.W.clsIn;rw[e],.own v,rfl⟩
theorem gq.ne{l:Zf}(x:gq l):l.isEmpty=false:=by cases x<;>rfl
section
variable{prog:bj}{w:World}{A:Around}{E:Zc}{s:Shared}{K:Za}{x C:Addr}{od:Option Addr}{vs:Array Value}{name:Str}{v:Value}
open PySem.W
theorem CS{M:Model}{h:Heap}{cd:ClassData}(X:K.In h)(hc:clsIn K C=some cd)(hv:gq cd.mro){n:String}(hn:iu.contains (.type n)=true):Looks M h (isSubtype (.ref C) (.type n)) true :=
 looks_mroIn X (by unfold mroIn;rw[hc,Option.bind_some,if_neg (by rw[hv.ne];decide),hv.has hn])
theorem BN{M:Model}{h:Heap}(hx:h.get? x=some { cls:=.ref C,dict:=od,data:=.fields vs }):Looks M h (typeOf (.ref x)) (.ref C):=(Looks.ld hx).andThen .now
theorem BO{h:Heap}{dx:Addr}{odx:Obj}(hx:h.get? x=some { cls:=.ref C,dict:=some dx,data:=.fields vs })(hd:h.get? dx=some odx):InstAt h x { cls:=.ref C,dict:=some dx,data:=.fields vs } C (some odx):=⟨hx,rfl,rfl,hd⟩
theorem xget{Q:Zc}{dx:Addr}{mA:Str->Option Value}{expr:Bool}(X:K.In s.heap)(c:zY K C)(hx:s.heap.get? x=some { cls:=.ref C,dict:=some dx,data:=.fields vs })(hn:s.heap.Ns1 dx mA)
  (ha:findIn K (.ref C) name=some none) (hv:mA name=some v) (hh:handedIn v=true) (h:Q v { s with toks:=s.toks+1 }):wpAny (model prog w) A (sG (.ref x) name expr) Q E s:=by
 obtain⟨cd,hc,hve,hd⟩:=c.cd;obtain⟨odx,ho,hl⟩:=pU hn;have I:=BO hx ho;have G:=PySem.F.attrBase_ValueError;obtain⟨hp,g,d,t,os⟩:=s;dsimp only at hx I X;have L0:=I.type (M:=model prog w);have L1:=looks_findIn (M:=model prog w) X c.ga;have L2:=looks_findIn (M:=model prog w) X c.gx;have hf:findObj K C (some odx) name=some (.value v):=findObj_own (by unfold hasDictIn;rw[hc];exact hd) ha rfl (by rw[hl,hv]);have L3:=looks_find (M:=model prog w) X I hf;have sub:Looks (model prog w) hp (isInstance (.ref x) (.type "BaseException")) true:=L0.andThen (CS X hc hve (by decide +kernel));unfold sG getAttrBy;refine am (wpAny_mkText (ji (am (L0.at (am (L1.at ?_))))));have ne:(onTheHeap (Value.ref C) && uf "BaseException.__getattribute__"==uf "object.__getattribute__")=false:=by
  rw[show(uf "BaseException.__getattribute__"==uf "object.__getattribute__")=false from by decide +kernel,qm]
 dsimp only;rw[ne,if_neg (by decide)];have hb:Looks (model prog w) hp (hookBefore (.ref C)) none:=L2;refine am (hb.at (am (wpAny_attempt (ji ?_))));unfold callGetattribute;rw[show(expr && onTheHeap (uf "BaseException.__getattribute__"))=false from qm _,if_neg (by decide)];unfold boundAndCalled;rw[G.ga.bind];refine am (aW ?_);show wpAny _ _ (call (.builtin "BaseException.__getattribute__") [.ref x,.str name _]) _ _ _;refine wpAny_call (codeAny_call_builtin G.ga.plain PySem.F.entry_bexc_ga ?_);refine @check_slot (model prog w) _ _ _ "BaseException.__getattribute__" "BaseException" "__getattribute__" (.ref x) [.str name _] [] _ (by decide +kernel) (by decide +kernel) sub (PySem.F.args_bexc_ga _ _) ?_;unfold cD.«object.__getattribute__»;refine am (aW (am (aW (am (L0.at (am (L3.at ?_)))))));refine aW ?_;show wpAny _ _ (handedOut v) _ _ _;rw[handedOut_of hh];exact aW h
end
def Dt(d:Addr)(fs:List (Str×V)):Heap->Prop:=fun h=>∃mA,h.Ns1 d mA/\∀f,gK (fs.lookup f) (mA f)
structure Du(K:Za)(T:Addr):Prop where
 rd:PySem.W.readsIn K T (.type "type")=true
 fi:PySem.W.findCls K (.ref T) (.type "type") "__init__"=some (.val (.builtin "ValueError.__init__"))
 ga:vG K (.ref T) "__getattribute__"=some (some (.builtin "type.__getattribute__"))
section
variable{X:Cx}{J3:Zd}{σ:St}{H:Hp}{s:Shared}{a C:Addr}{od:Option Addr}
theorem Inv.exc(I:Inv X J3 σ H s)(e:H a=some (.ext (lM a C od))):∃vs,s.heap.get? a=some { cls:=.ref C,dict:=od,data:=.fields vs }/\1<vs.size:=(I.hok a _ e).1
def vX(K:Za)(ta:TE)(f:Str):TE:=fun σ H Q=>ta σ H fun x H1=>∃a C d fs v,x=.ref a/\H1 a=some (.ext (lM a C (some d)))/\H1 d=some (.ext (Dt d fs))/\zY K C/\cN K C f/\fs.lookup f=some v/\Q v H1
theorem rm{e:Expr}{f:Str}{pos:Pos}{ta:TE}(he:PE X e ta)(hb:pq e f X.env (eval e X.env)=eval e X.env):PE X (.Attribute e f pos) (vX X.K ta f):=by
 intro J3 s σ H Q I h;refine wN hb (bV (he J3 s σ H _ I h) fun u s1 ⟨x,H1,I1,rx,a,C,d,fs,v,ex,ea,ed,c,n,l,q⟩=>?_);subst ex;obtain rfl:u=Value.ref a:=rx;obtain⟨vs,g,_⟩:=I1.exc ea;obtain⟨mA,nA,rA⟩:=(I1.hok d _ ed).1;obtain⟨u',hu,ru⟩:=gK.some_of (v:=v) (o:=mA f) (by rw[<-l];exact rA f);exact xget I1.kIn c g nA n hu (pY ru) ⟨v,H1,I1.tok _,ru,q⟩
end
abbrev Cx.hnd(X:Cx)(v:Value):Cx:={ X with A:=X.A.mark (some v),calm:=false,xe:=fun _ _=>False }
section
variable{X:Cx}{J3:Zd}{σ:St}{H:Hp}{s:Shared}{n:Nat}{a C:Addr}{od:Option Addr}{v:Value}
theorem Inv.hnd(I:Inv X J3 σ H s)(v:Value):Inv (X.hnd v) J3 σ H s :=
 ⟨⟨I.ok.mod,I.ok.kind,I.ok.glob,I.ok.blt,I.ok.above,I.ok.inj,I.ok.has,I.ok.cab,(fun z=>nomatch z),I.ok.frames,I.ok.stk,I.ok.exf,I.ok.bs,I.ok.bsz,I.ok.noex,I.ok.exfs,I.ok.funs,I.ok.frf⟩,I.os,I.bare,I.base,I.loc,I.cell,I.free,I.freeC,I.pin,I.hok,I.len⟩
theorem Inv.unhnd(I':Inv (X.hnd v) J3 σ H s)(ok:X.Ok):Inv X J3 σ H s:=⟨ok,I'.os,I'.bare,I'.base,I'.loc,I'.cell,I'.free,I'.freeC,I'.pin,I'.hok,I'.len⟩
theorem Af{M:Model}{A:Around}{Q:Unit->Shared->Prop}{E:Zc}(I:Inv X J3 σ H s)(y:oH X J3 n)(fl:p_ n s.heap H a C od)(h:∀s',Inv X J3 σ H s'->p_ n s'.heap H a C od->Q () s'):
  wpAny M A (nc (.ref a) none) Q E s:=by
 obtain⟨vs,T,e,z,tr,fT⟩:=fl.tr;unfold nc;rcases tr with⟨h1,rfl⟩|⟨t,oT,ts,rfl,h1,ny,hta,hT,hdT,h3⟩
 ·refine am (cr e rfl h1 ?_);rw[if_neg (by decide)];exact aW (h s I fl)
 ·refine am (cr e rfl h1 ?_);rw[if_pos (show(Value.ref t != Value.none)=true from by simp)];refine kQ hT hdT (gP.mp h3).1 ?_;have kp:∀b o,b≠t->s.heap.get? b=some o->(s.heap.update t (gh (·.setIfInBounds 3 ((none:Option Addr).elim Value.none fun f=>rawInt f)))).get? b=some o:=fun b o nb g=>by
   rw[ju _ _ (cO nb)];exact g
  have hz3:=(gP.mp h3).1;refine h _ (I.turned (t':=s.toks) (it:=t) kp (fT t rfl) (fun q=>absurd ny (gf (q▸y.loc))) (.inr (bF y.s0 ny)) (fun x c g q=>absurd ny (gf (q▸y.cell x c g))) (fun p hp q=>absurd ny (gf (q▸y.pin p hp))))
   ⟨fl.trk,fl.new,vs,some t,kp a _ (cO hta) e,z,.inr ⟨t,_,_,rfl,h1,ny,hta,jv _ hT (nk (ik hdT _)),ik hdT _,by simp[hz3]⟩,fT⟩
theorem mR{M:Model}{A:Around}{E:Zc}{i:Nat}{x:Str}{pos:Pos}{Q:Unit->Shared->Prop}(I:Inv X J3 σ H s)(hN:X.N.Nodup)(hi:X.N[i]?=some x)(hx:X.env.scope.names.lookup x=some .local)
  (h:∀s',Inv X J3 (σ.set i none) H s'->Q () s'):wpAny M A (do bindName X.env x .none;unbindBehindTheSuite X.env x pos) Q E s:=by
 obtain⟨m,hn,hl⟩:=id I.loc;have hcls:(X.env.scope.kind==.class || (X.env.scope.kind==.module && X.env.locals != X.env.globals))=false:=by rw[I.ok.kind];rfl
 have hiσ:i<σ.length:=by rw[I.len];exact(db.mp hi).1
 have cne:=I.cne;refine wpAny_nameGoes_keeps hx hn hcls fun h' v hn' hs=>?_;obtain⟨oL,_,_,hoL,_⟩:=id hn;have tracked:iL X.prog X.w X.K H h':=fun b ob e=>by
  refine(I.hok b ob e).stay (fun c w' hc q=>(hs.2 c ?_).trans q) (fun _ q=>q) fun _ _ q=>q;rintro rfl;rcases hc with rfl|hc
  ·rw[I.free]at e;cases e
  ·rw[I.free]at hc;cases hc
 refine h _ ⟨I.ok,I.os,I.bare,⟨fun b o e n hb hx=>?_,fun b o e n hb hx=>?_,I.base.free,fun b o e hx=>?_,I.base.tups,I.base.frzs,I.base.tbls⟩,⟨_,hn',fun j y v' e1 e2 e3=>?_⟩,fun y c e=>?_,I.free,I.freeC,fun p hp=>?_,tracked,by simpa using I.len⟩
 ·exact(hs.2 b (bP (d5 (aE e) I.ok.above))).trans (I.base.keep b o e n hb hx)
 ·obtain⟨sl,e1⟩:=I.base.slot b o e n hb hx;exact⟨sl,(hs.2 b (bP (d5 (aE e) I.ok.above))).trans e1⟩
 ·obtain⟨o',e1⟩:=I.base.there b o e hx;exact⟨o',(hs.2 b (bP (d5 (aE e) I.ok.above))).trans e1⟩
 ·by_cases hj:j=i
  ·subst hj;rw[List.getElem?_set_self hiσ]at e2;cases e2
  ·rw[vO (cO hj)]at e2;obtain⟨u',r',q⟩:=hl j y v' e1 e2 e3;refine⟨u',r',?_⟩;rcases q with⟨k,e⟩|⟨k,c,e,z⟩
   ·refine .inl ⟨k,?_⟩;have:y≠x:=fun e=>hj (n_ hN e1 (e▸hi));simp[this,e]
   ·exact .inr ⟨k,c,e,z.sameBut hs (cne y c e)⟩
 ·obtain⟨w',z⟩:=I.cell y c e;exact⟨w',z.sameBut hs (cne y c e)⟩
 ·obtain⟨e,n,ne,nf,d⟩:=I.pin p hp;exact⟨(hs.2 p.1 ne).trans e,n,ne,nf,d⟩
def XS(X:Cx)(J3:Zd)(W:St->XK)(e:Value)(s':Shared):Prop:=∃n a C od σ' H',e=.ref a/\oH X J3 n/\Inv X J3 σ' H' s'/\p_ n s'.heap H' a C od/\W σ' (.ref C) (some a) H'
def PH(X:Cx)(hs:List qh)(t:fK->St->XK):Prop:=∀(J3:Zd) (n:Nat) (s:Shared) (σ:St) (H:Hp) (D:fK) (a C:Addr) (od:Option Addr),Inv X J3 σ H s->oH X J3 n->p_ n s.heap H a C od->t D σ (.ref C) (some a) H ->
 wpAny (model X.prog X.w) X.A (handleBy (.ref a) X.env hs) (SP X J3 D) X.xe s
def CV(tb:(St->XK)->TS)(th:fK->St->XK):TS:=fun D σ H=>tb (th D) D σ H
def CW(t:TS):(St->XK)->TS:=fun _=>t
def PX1(X:Cx)(b:Stmt)(t:(St->XK)->TS):Prop:=∀(J3:Zd) (s:Shared) (σ:St) (H:Hp) (D:fK) (W:St->XK),Inv X J3 σ H s->t W D σ H->wpAny (model X.prog X.w) X.A (exec b X.env) (SP X J3 D) (XS X J3 W) s
section
variable{cn nme:Str}{Dc:Addr}{np hpos:Pos}{b0:Stmt}{suite:List Stmt}{rest:List qh}{th:TS}{tr:fK->St->XK}{i:Nat}
def BT(K:Za)(Dc:Addr)(i:Nat)(th:TS)(tr:fK->St->XK):fK->St->XK:=fun D σ cls oa H=>∃C a b,cls=.ref C/\oa=some a/\PySem.W.exmOne K (.ref C) (.ref Dc)=some b /\
 if b=true then th { nx:=fun σ' H'=>D.nx (σ'.set i none) H',rt:=D.rt,bk:=fun σ' H'=>D.bk (σ'.set i none) H',ct:=fun σ' H'=>D.ct (σ'.set i none) H' } (σ.set i (some (.ref a))) H else tr D σ cls oa H
def CY:fK->St->XK:=fun _ _ _ _ _=>False
theorem B6:PH X [] CY:=fun _ _ _ _ _ _ _ _ _ _ _ _ h=>h.elim
theorem Br(hN:X.N.Nodup)(hi:X.N[i]?=some nme)(hx:X.env.scope.names.lookup nme=some .local)(hg:Gl X cn)(hm:X.mg cn=some (.ref Dc))(hsu:∀a:Addr,t5 (X.hnd (.ref a)) (b0::suite) th)(hre:PH X rest tr)
  (hdb:(cn==("__debug__":Str))=false:=by decide):PH X (.ExceptHandler (some (.Name cn np)) (some nme) (b0::suite) hpos::rest) (BT X.K Dc i th tr):=by
 intro J3 n s σ H D a C od I y fl ⟨C',a',b,e1,e2,ex,h⟩;cases e1;cases e2;obtain⟨vs,g,_⟩:=I.exc fl.trk;refine wpAny_handleBy_cons (codeAny_handlers_test ?_) (by intro q;cases q);refine mP (X:=X.hnd (.ref a)) (I.hnd (.ref a)) hg hm ?_ hdb;refine(PySem.W.exm_one (M:=model X.prog X.w) I.kIn (BN g) ex).here ?_;cases b with
 |false=>exact hre J3 n s σ H D a C od I y fl h
 |true =>
  refine codeAny_handlers_suite_as (Af I y fl fun s1 I1 fl1=>?_);refine nQ (X:=X) I1 hN hi (.inl hx) (v:=.ref a) (u:=.ref a) rfl (fun s2 I2=>?_) (.inr hx);refine d4 (hsu a J3 s2 _ H _ (I2.hnd (.ref a)) h) (fun f s3 q3=>?_) fun _ _ z=>fu z;cases f with
  |next=>obtain⟨σ',H',I3,q⟩:=q3;exact mR (I3.unhnd I.ok) hN hi hx fun s4 I4=>⟨_,H',I4,q⟩
  |brk=>obtain⟨σ',H',I3,q⟩:=q3;exact mR (I3.unhnd I.ok) hN hi hx fun s4 I4=>⟨_,H',I4,q⟩
  |cont=>obtain⟨σ',H',I3,q⟩:=q3;exact mR (I3.unhnd I.ok) hN hi hx fun s4 I4=>⟨_,H',I4,q⟩
  |ret u=>obtain⟨v,σ',H',I3,rv,q⟩:=q3;exact mR (I3.unhnd I.ok) hN hi hx fun s4 I4=>⟨v,_,H',I4,rv,q⟩
end
end
end L2
namespace L2
open PySem PySem.W
theorem Cj{K:Frag}{C D:Addr}{b:Bool}(h1:subIn K (.ref D) (.type "BaseException")=some true)(h2:isClsIn K D=true)(h3:typeIn K (.ref D)=some (.type "type"))(h4:subIn K (.ref C) (.ref D)=some b):exmOne K (.ref C) (.ref D)=some b:=by
 have h2':(clsIn K D).isSome=true:=h2;unfold exmOne;rw[h1,if_pos (by decide)];show(if((clsIn K D).isSome && typeIn K (.ref D)==some (.type "type"))=true then subIn K (.ref C) (.ref D)else none)=some b
 rw[if_pos (by rw[h2',h3];decide)];exact h4
end L2
end

section
set_option Elab.async false
set_option linter.all false
set_option maxRecDepth 100000
namespace L2
open PySem PySem.Spec PyProof.Rows PySem.W
structure XO(K:Frag)(C:Addr)(bm:Zf):Prop where
 ex:∃nm q N bs sn sub ab col dd k0 k1 k2 k3 k5,K.lookup C=some (ng nm q C N bs bm true sn sub ab col dd k0 k1 k2 k3 k5 "ValueError.__new__")
structure XG(K:Frag):Prop where
 hn:specialIn K (.builtin "object.__class__") "__get__"=some (some (.builtin "getset_descriptor.__get__"))
 htk:takesIn K (.builtin "object.__class__")=some true
structure XX(K:Frag)(mg:Str->Option Value)(x:Str)(C Ct:Addr):Prop where
 g:mg x=some (.ref C)
 o:XO K C (.ref Ct::iu)
 sa:findIn K (.ref C) "__setattr__"=some (some (.builtin "object.__setattr__"))
 ga:findIn K (.ref C) "__getattribute__"=some (some (.builtin "BaseException.__getattribute__"))
 gx:findIn K (.ref C) "__getattr__"=some none
 kp:keepIn K (.ref C)=true
 cl:findIn K (.ref C) "__class__"=some (some (.builtin "object.__class__"))
theorem AC{X:Cx}{b:Stmt}{t:TS}(h:PS X.nox b t):PX1 X b (CW t):=fun J3 s σ H D W I q=>d4 (h J3 s σ H D (I.wish _) q) (fun _ _ z=>z.unwish) fun _ _ z=>fu z
structure vz(n:Nat)(h:Heap)(H:Hp)(a C:Addr)(od:Option Addr)(L:Addr):Prop where
 trk:H a=some (.ext (lM a C od))
 new:n<=a
 tr:∃vs t oT ts,h.get? a=some { cls:=.ref C,dict:=od,data:=.fields vs }/\vs[1]?=some (.ref t)/\n<=t/\t≠a/\h.get? t=some oT/\oT.data=.fields ts/\ts[3]?=some (rawInt L)/\H t=none
section
variable{M:Model}{A:Around}{E:Zc}{s:Shared}{base:Heap}{env:Env}{outer:List Env}{L e:Addr}{oe:Obj}{vs:Array Value}{Q:Unit->Shared->Prop}
theorem vR{head:Value}{hadNext:Bool}(hfr:A.frames=some (env::outer))(hl:s.heap.FunFrames base (env::outer))(hf:env.frame=some L)
  (he:s.heap.get? e=some oe) (hd:oe.data=.fields vs) (hsz:1<vs.size)
  (h:∀h' vs' oT ts,CI (pc (env::outer)) e none s.heap h'->h'.get? e=some { oe with data:=.fields vs' }->vs'[1]?=some (.ref s.heap.objs.size) ->
   h'.get? s.heap.objs.size=some oT->oT.data=.fields ts->ts[3]?=some (rawInt L)->Q () { s with heap:=h' }) :
  wpAny M A (do let fr <- frameOf env;let pl <- entryPlaceOf L hadNext;let nw <- EntryCells.newEntry head fr .none (rawInt L) .none pl;setField (.ref e) 1 nw) Q E s:=by
 have nfr:e∉pc (env::outer):=fun z=>by
  obtain⟨_,o,q1,q2⟩:=hl.mem z;rw[he]at q1;cases q1;exact q2 vs hd
 refine am (wpAny_frameOf_fun hfr hl hf fun h1 so=>am (wpAny_entryPlaceOf fun pl hpl=>?_));unfold EntryCells.newEntry newFields;refine am (qx ?_ (hpl.sizeOk5 _ _ _ _ _));generalize hN:({ cls:=.type "traceback",dict:=none,data:=.fields ([head,.ref L,.none,rawInt L,.none]++(if pl.isEmpty then pk 6 Value.none else pl)).toArray }:Obj)=oN
 have dN:oN.data=.fields ([head,.ref L,.none,rawInt L,.none]++(if pl.isEmpty then pk 6 Value.none else pl)).toArray:=by rw[<-hN]
 have fN:oN.isFreed=false:=by rw[<-hN];rfl
 have e1:h1.get? e=some oe:=(so.2.1 e nfr).trans he;have e2:=aQ (h:=h1) oN e1;have z1:h1.objs.size=s.heap.objs.size:=so.1;refine kQ e2 hd hsz ?_;have ne:h1.objs.size≠e:=dZ (aE e1);have d3:=ik hd (·.setIfInBounds 1 (Value.ref h1.objs.size));have e3:=jv (gh (·.setIfInBounds 1 (Value.ref h1.objs.size))) e2 (nk d3);have t3:((h1.push oN).update e (gh (·.setIfInBounds 1 (Value.ref h1.objs.size)))).get? h1.objs.size=some oN:=(ju (h1.push oN) _ (cO ne)).trans (cz h1 fN);have oth:∀b o,b≠e->h1.get? b=some o->((h1.push oN).update e (gh (·.setIfInBounds 1 (Value.ref h1.objs.size)))).get? b=some o:=fun b o nb q=>by
  rw[ju _ _ (cO nb)];exact aQ _ q
 have e4:((h1.push oN).update e (gh (·.setIfInBounds 1 (Value.ref h1.objs.size)))).get? e=some { oe with data:=.fields (vs.setIfInBounds 1 (Value.ref h1.objs.size)) }:=by
  rw[e3,Obj.mapF hd]
 refine h _ _ _ _ ⟨fun b o q nb _ nf=>oth b o nb ((so.2.1 b nf).trans q),fun b o q nb _ nf=>?_,fun b o q=>?_⟩ e4 ?_ (by rw[<-z1];exact t3) dN ?_
 ·obtain⟨sl,q1⟩:=so.2.2 b o q;exact⟨sl,oth b _ nb q1⟩
 ·by_cases nb:b=e
  ·rw[nb];exact⟨_,e4⟩
  ·obtain⟨sl,q1⟩:=so.2.2 b o q;exact⟨_,oth b _ nb q1⟩
 ·rw[<-z1];simp[hsz]
 ·simp
theorem Ad{n:Nat}{T:Option Addr}(hfr:A.frames=some (env::outer))(hl:s.heap.FunFrames base (env::outer))(hf:env.frame=some L)
  (he:s.heap.get? e=some oe) (hd:oe.data=.fields vs) (ht:Trc n s.heap e vs T)
  (h:∀h' vs' oT ts,CI (pc (env::outer)) e T s.heap h'->h'.get? e=some { oe with data:=.fields vs' }->vs'[1]?=some (.ref s.heap.objs.size) ->
   h'.get? s.heap.objs.size=some oT->oT.data=.fields ts->ts[3]?=some (rawInt L)->Q () { s with heap:=h' }):wpAny M A (kS (.ref e) env) Q E s:=by
 unfold kS;simp only[hf];rcases ht with⟨h1,rfl⟩|⟨t,oT,ts,rfl,h1,_,hte,hT,hdT,h3⟩
 ·refine am (cr he hd h1 ?_);rw[if_neg (by decide)];exact vR hfr hl hf he hd (gP.mp h1).1 h
 ·refine am (cr he hd h1 ?_);rw[if_pos (show(Value.ref t != Value.none)=true from by simp)];refine am (cr hT hdT h3 ?_);rw[if_neg (show ¬((Value.none==rawInt L)=true)from by simp[rawInt])];refine am (kQ hT hdT (gP.mp h3).1 ?_);have oth:∀b,b≠t->(s.heap.update t (gh (·.setIfInBounds 3 Value.none))).get? b=s.heap.get? b:=fun b hb=>ju _ _ (cO hb);have tt:=jv (gh (·.setIfInBounds 3 Value.none)) hT (nk (ik hdT _));have nrec:∀b o,s.heap.get? b=some o->(∀ws,o.data≠.fields ws)->b≠t:=fun b o hb hnf q=>by
   rw[q,hT]at hb;cases hb;exact hnf ts hdT
  have sz:(s.heap.update t (gh (·.setIfInBounds 3 Value.none))).objs.size=s.heap.objs.size:=Heap.size_after_update ..;refine vR (s:={ s with heap:=s.heap.update t (gh (·.setIfInBounds 3 Value.none)) }) hfr (hl.of_keeps fun b o hb hnf=>⟨o,(oth b (nrec b o hb hnf)).trans hb,rfl⟩) hf ((oth e (cO hte)).trans he) hd (gP.mp h1).1 ?_;intro h' vs' oT' ts' fl q1 q2 q3 q4 q5;rw[sz]at q2 q3;refine h h' vs' oT' ts' ⟨fun b o q nb nt nf=>fl.keep b o ((oth b fun z=>nt (by rw[z])).trans q) nb (by simp) nf,fun b o q nb nt nf=>fl.slot b o ((oth b fun z=>nt (by rw[z])).trans q) nb (by simp) nf,fun b o q=>?_⟩ q1 q2 q3 q4 q5;by_cases hb:b=t
  ·rw[hb];exact fl.there t _ tt
  ·exact fl.there b o ((oth b hb).trans q)
end
section
variable{X:Cx}{J3:Zd}{σ:St}{H:Hp}{s:Shared}{n:Nat}{a C:Addr}{od:Option Addr}
def Fly(X:Cx)(n:Nat)(h:Heap)(H:Hp)(a C:Addr)(od:Option Addr):Prop:=p_ n h H a C od∨vz n h H a C od X.env.locals
theorem BL{M:Model}{Q:Unit->Shared->Prop}{E:Zc}(I:Inv X J3 σ H s)(y:oH X J3 n)(st:X.stack=X.env::X.outer)(sf:X.env.frame=some X.env.locals)(fl:Fly X n s.heap H a C od)
  (h:∀s',Inv X J3 σ H s'->vz n s'.heap H a C od X.env.locals->Q () s'):wpAny M X.A (kS (.ref a) X.env) Q E s:=by
 rcases fl with fl|fl
 ·obtain⟨vs,T,e,z,tr,fT⟩:=fl.tr;have hsk:=I.stack;rw[st]at hsk;refine Ad (n:=n) (base:=X.base) (by rw[I.ok.frames,st]) hsk sf e rfl tr fun h' vs' oT ts fw q1 q2 q3 q4 q5=>?_;have z':1<vs'.size:=(gP.mp q2).1;have hfs:∀b∈pc (X.env::X.outer),H b=none:=fun b hb=>I.stkFree b (by rw[st];exact hb);have ok':=zt I.hok fl.trk fT hfs fw q1 z';have nT:∀t,T=some t->n<=t:=fun t ht=>by
   rcases tr with⟨_,q⟩|⟨t',_,_,q,_,l,_⟩
   ·rw[q]at ht;cases ht
   ·rw[q]at ht;cases ht;exact l
  have inC:∀b,b≠X.env.locals->b∉X.fs->b∉pc (X.env::X.outer):=fun b h1 h2 hb=>by
   unfold pc at hb;rw[pA,sf]at hb;exact(bg.mp hb).elim h1 h2
  have notA:∀b,H b=none->b≠a:=fun b hb q=>by rw[q,fl.trk]at hb;cases hb
  obtain⟨m0,⟨oL,esL,epL,hoL,rL⟩,_⟩:=id I.loc;have hLin:X.env.locals∈pc (X.env::X.outer):=by unfold pc;rw[pA,sf];exact bY
  have hLT:some X.env.locals≠T:=fun q=>absurd (nT _ q.symm) (gf y.loc);obtain⟨slL,hL'⟩:=fw.slot _ oL hoL (notA _ I.free) hLT hLin;refine h _ (I.step (g':=s.gens) (d':=s.drawn) (t':=s.toks) (ch:=T.toList) (fun b hb=>?_) (fun b o hL hf hc g hn=>?_) (fun b o hL hf hc g hn=>?_) (fun b o _ _ hn=>hn) (fun b o _ g=>fw.there b o g)
   (fun _ _ g=>g) (fun _ _ _ g=>g) (fun b ps g=>⟨#[],by rw[g];simp⟩) (fun m hm=>?_) ok' I.bare) ⟨fl.trk,fl.new,vs',s.heap.objs.size,oT,ts,q1,q2,?_,?_,q3,q4,q5,?_⟩
  ·have hT:T=some b:=by cases T with
    |none=>simp at hb
    |some t=>simp at hb;rw[hb]
   have ny:=nT b hT;exact⟨.inr (bF y.s0 ny),fun q=>absurd ny (gf (q▸y.loc)),fun x c g q=>absurd ny (gf (q▸y.cell x c g)),fun p hp q=>absurd ny (gf (q▸y.pin p hp))⟩
  ·exact fw.keep b o g (notA b hn) (fun q=>hc (by rw[<-q];simp)) (inC b hL hf)
  ·refine fw.slot b o g (notA b hn) (fun q=>hc (by rw[<-q];simp)) ?_;unfold pc;rw[pA,sf];exact cg _ hf
  ·obtain⟨o',es',ep',ho',r'⟩:=hm;rw[hoL]at ho';cases ho';exact⟨_,es',ep',hL',r'⟩
  ·exact bF (bF fl.new (fR (aE e))) (aD _)
  ·exact dZ (aE e)
  ·exact I.hok.fresh (aD _)
 ·obtain⟨vs,t,oT,ts,e,h1,ny,hta,hT,hdT,h3,nt⟩:=fl.tr;unfold kS;simp only[sf];refine am (cr e rfl h1 ?_);rw[if_pos (show(Value.ref t != Value.none)=true from by simp)];refine am (cr hT hdT h3 ?_);rw[if_pos (show(rawInt X.env.locals==rawInt X.env.locals)=true from by simp)];exact aW (h s I fl)
theorem BM{M:Model}{A:Around}{Q:Unit->Shared->Prop}{E:Zc}{L:Addr}(fr:Option Addr)(I:Inv X J3 σ H s)(y:oH X J3 n)(fl:vz n s.heap H a C od L)
  (h:∀s' vs t oT ts,Inv X J3 σ H s'->s'.heap.get? a=some { cls:=.ref C,dict:=od,data:=.fields vs }->vs[1]?=some (.ref t)->n<=t->t≠a->s'.heap.get? t=some oT->oT.data=.fields ts->ts[3]?=some (fr.elim Value.none fun f=>rawInt f)->H t=none->Q () s') :
  wpAny M A (nc (.ref a) fr) Q E s:=by
 obtain⟨vs,t,oT,ts,e,h1,ny,hta,hT,hdT,h3,nt⟩:=fl.tr;unfold nc;refine am (cr e rfl h1 ?_);rw[if_pos (show(Value.ref t != Value.none)=true from by simp)];refine kQ hT hdT (gP.mp h3).1 ?_;have kp:∀b o,b≠t->s.heap.get? b=some o->(s.heap.update t (gh (·.setIfInBounds 3 (fr.elim Value.none fun f=>rawInt f)))).get? b=some o:=fun b o nb g=>by
  rw[ju _ _ (cO nb)];exact g
 have hz3:=(gP.mp h3).1;exact h _ vs t _ _ (I.turned (t':=s.toks) (it:=t) kp nt (fun q=>absurd ny (gf (q▸y.loc))) (.inr (bF y.s0 ny)) (fun x c g q=>absurd ny (gf (q▸y.cell x c g))) (fun p hp q=>absurd ny (gf (q▸y.pin p hp))))
  (kp a _ (cO hta) e) h1 ny hta (jv _ hT (nk (ik hdT _))) (ik hdT _) (by simp[hz3]) nt
theorem Ae{M:Model}{Q:Unit->Shared->Prop}{E:Zc}(I:Inv X J3 σ H s)(y:oH X J3 n)(st:X.stack=X.env::X.outer)(sf:X.env.frame=some X.env.locals)(fl:Fly X n s.heap H a C od)
  (h:∀s',Inv X J3 σ H s'->p_ n s'.heap H a C od->Q () s'):wpAny M X.A (kS (.ref a) X.env) (fun _ s'=>wpAny M X.A (nc (.ref a) none) Q E s') E s:=by
 refine BL I y st sf fl fun s1 I1 f1=>BM none I1 y f1 fun s2 vs t oT ts I2 q1 q2 q3 q4 q5 q6 q7 q8=>h s2 I2 ⟨f1.trk,f1.new,vs,some t,q1,(gP.mp q2).1,.inr ⟨t,oT,ts,rfl,q2,q3,q4,q5,q6,q7⟩,fun t' ht=>by cases ht;exact q8⟩
def XS2(X:Cx)(J3:Zd)(W:St->XK)(e:Value)(s':Shared):Prop:=∃n a C od σ' H',e=.ref a/\oH X J3 n/\Inv X J3 σ' H' s'/\Fly X n s'.heap H' a C od/\W σ' (.ref C) (some a) H'
theorem XS.two{W:St->XK}{e:Value}{s':Shared}(h:XS X J3 W e s'):XS2 X J3 W e s':=let⟨n,a,C,od,σ',H',ea,y,I,fl,q⟩:=h;⟨n,a,C,od,σ',H',ea,y,I,.inl fl,q⟩
end
def PY(X:Cx)(b:List Stmt)(t:(St->XK)->TS):Prop:=∀(J3:Zd) (s:Shared) (σ:St) (H:Hp) (D:fK) (W:St->XK),Inv X J3 σ H s->t W D σ H->wpAny (model X.prog X.w) X.A (execs b X.env) (SP X J3 D) (XS2 X J3 W) s
def PY1(X:Cx)(b:Stmt)(t:(St->XK)->TS):Prop:=∀(J3:Zd) (s:Shared) (σ:St) (H:Hp) (D:fK) (W:St->XK),Inv X J3 σ H s->t W D σ H->wpAny (model X.prog X.w) X.A (exec b X.env) (SP X J3 D) (XS2 X J3 W) s
section
variable{X:Cx}{J3:Zd}{σ:St}{H:Hp}{s:Shared}{t u:(St->XK)->TS}{b:Stmt}{bs:List Stmt}{pos:Pos}
theorem py1(h:PX1 X b t):PY1 X b t:=fun J3 s σ H D W I q=>d4 (h J3 s σ H D W I q) (fun _ _ z=>z) fun _ _ z=>z.two
theorem B1(h:PY1 X b t):PY X [b] t:=by
 intro J3 s σ H D W I q;refine wpAny_execs_cons (d4 (h J3 s σ H D W I q) (fun f s1 q=>?_) fun _ _ y=>y);cases f with
 |next=>exact pr q
 |ret v=>exact q
 |brk=>exact q
 |cont=>exact q
theorem AD{body:List Stmt}{h0:qh}{hs:List qh}{tb:(St->XK)->TS}{th:fK->St->XK}(hb:PY X body tb)(hh:PH X (h0::hs) th)(st:X.stack=X.env::X.outer:=by rfl)(sf:X.env.frame=some X.env.locals:=by rfl):
  PS X (.Try body (h0::hs) [] [] pos) (CV tb th):=by
 intro J3 s σ H D I h;refine wpAny_Try_except (d4 (hb J3 s σ H D (th D) I h) (fun f s1 q=>?_) fun e s1 ⟨n,a,C,od,σ',H',ea,y,I',fl,q⟩=>?_)
 ·cases f with
  |next=>exact pr q
  |ret v=>exact q
  |brk=>exact q
  |cont=>exact q
 ·subst ea;exact Ae I' y st sf fl fun s2 I2 fl2=>hh J3 _ s2 σ' H' D a C od I2 y fl2 q
end
def Bk:Expr->List Str
 |.Name x _=>[x]
 |.Tuple es _ _=>es.filterMap fun e=>match e with | .Name x _=>some x|_=>none
 |_=>[]
theorem bK{X:Cx}{b:List Stmt}{t:TS}{D:fK}{σ:St}{H:Hp}(r:t D σ H)(p:t5 X b t):∃t,t5 X b t/\t D σ H:=⟨t,p,r⟩
section
variable{X:Cx}{k k0:Nat}{ps:Zb}{sp:Sp}{x m:Str}{C:Addr}{p pos J5:Pos}{o e a b:Expr}{es:List Expr}{t:TA}{ta tb te:TE}
theorem qf(hr:dw k0 X.A)(D:ic X.prog X.w X.K X.mg X.base x ps k sp)(ha:PA X (e::es) t)(hk:k<=k0:=by decide)(hg:Gl X x:=by rfl)(hdb:(x==("__debug__":Str))=false:=by decide)
  (he:aG (e::es) X.env=(false,eval e X.env)::aG es X.env:=by rfl) (hpl:(backTo pos (aG es X.env)).any (·.1)=false:=by rfl) :
  PE X (.Call (.Name x p) (e::es) [] pos) (aZ sp t):=Bt D (hr.mono hk) hg ha hdb he hpl
theorem Bq{pl:Sem Bool}(hr:dw k0 X.A)(M:CF X.prog X.w X.K X.mg X.base C m ps k sp)(he:PE X o ta)(hk:k<=k0:=by decide)
  (ht:eval (.Call (.Attribute o m J5) [] [] pos) X.env=(do
   let ov <- eval o X.env
   sJ J5.atName
   let(f,first) <- lY [ov] (sE ov m pl)
   callWith pos f first (backTo pos (aG [] X.env)) (sB pos (sA [] X.env))):=by rfl) :
  PE X (.Call (.Attribute o m J5) [] [] pos) (gB C m sp [] E0 ta bz):=AH (pl:=pl) M (hr.mono hk) he ht
theorem xl(ha:PE X a ta)(hb:PE X b tb)(hs:x8 b:=by exact fun _ _=>rfl):PE X (.Subscript a b pos) (aL (cX X.K) ta tb):=v_ wq ha hb hs
theorem xt(ha:PE X a ta)(hb:PE X b tb)(hs:x8 b:=by exact fun _ _=>rfl):PE X (.Subscript a b pos) (aL (AA X.K) ta tb):=v_ zp ha hb hs
theorem xq(ha:PE X a ta)(hb:PE X b tb)(hs:x8 b:=by exact fun _ _=>rfl):PE X (.Subscript a b pos) (aL (xC X.K) ta tb):=v_ Cg ha hb hs
theorem xs'(ha:PE X a ta)(hb:PE X b tb)(hs:x8 b:=by exact fun _ _=>rfl):PE X (.Subscript a b pos) (aL yV ta tb):=v_ zq ha hb hs
theorem uo{op:CmpOp}{r:R2}(ho:kF X (da op) r)(ha:PE X a ta)(hb:PE X b tb)(hm:hW op b=false:=by exact zg _):PT X (.Compare a [op] [b] pos) (cT (aL r ta tb)):=v7 ho ha hb hm
theorem Aa{op:CmpOp}{r:R2}(ho:kF X (da op) r)(ha:PE X a ta)(hb:PE X b tb)(hm:hW op b=false:=by exact zg _):PE X (.Compare a [op] [b] pos) (aL r ta tb):=wb ho ha hb hm
theorem tci{op:CmpOp}{r:R2}(ho:kF X (da op) r)(ha:PE X a ta)(hb:PE X b tb)(hm:hW op b=false:=by with_unfolding_all rfl):PT X (.Compare a [op] [b] pos) (cT (aL r ta tb)):=v7 ho ha hb hm
theorem eci{op:CmpOp}{r:R2}(ho:kF X (da op) r)(ha:PE X a ta)(hb:PE X b tb)(hm:hW op b=false:=by with_unfolding_all rfl):PE X (.Compare a [op] [b] pos) (aL r ta tb):=wb ho ha hb hm
theorem qB{id:String}{r:List V->Hp->VK->Prop}(hc:eP X (.builtin id) r)(hm:X.mg x=none)(hv:fS x=some (.builtin id))(ha:PA X (e::es) t)(hg:Gl X x:=by rfl)(hn:x≠"__name__":=by decide)(hdb:(x==("__debug__":Str))=false:=by decide)
  (he:aG (e::es) X.env=(false,eval e X.env)::aG es X.env:=by rfl) (hpl:(backTo pos (aG es X.env)).any (·.1)=false:=by rfl):PE X (.Call (.Name x p) (e::es) [] pos) (de r t):=tz hc hg hm hv ha hn hdb he hpl
theorem qL(hc:X.calm=true)(hm:X.mg "list"=none)(ha:PA X (e::es) t)(hg:Gl X "list":=by rfl)
  (he:aG (e::es) X.env=(false,eval e X.env)::aG es X.env:=by rfl) (hpl:(backTo pos (aG es X.env)).any (·.1)=false:=by rfl):PE X (.Call (.Name "list" p) (e::es) [] pos) (de (cJ X.K) t):=ln (vm hc) hg hm oG ha (by decide) (by decide) he hpl
theorem ql(hm:X.mg "len"=none)(ha:PA X (e::es) t)(hg:Gl X "len":=by rfl)
  (he:aG (e::es) X.env=(false,eval e X.env)::aG es X.env:=by rfl) (hpl:(backTo pos (aG es X.env)).any (·.1)=false:=by rfl):PE X (.Call (.Name "len" p) (e::es) [] pos) (de (dX X.K) t):=tz xX hg hm PySem.boot_len ha (by decide) (by decide) he hpl
theorem qs(i:Nat){pos':Pos}(hN:X.N.Nodup)(he:PE X e te)(hi:X.N[i]?=some x:=by rfl)(hx:Loc X.env.scope x:=by first|exact Or.inl rfl|exact Or.inr rfl)(hs:mW e (some (.Name x pos')) pos.line X.env=pure false:=by rfl)(hf:X.fn x=true∨X.env.scope.names.lookup x=some .local:=by first|exact .inl rfl|exact .inr rfl|assumption):
  PS X (.Assign [.Name x pos'] e pos) (aV te (cF i)):=B2 hN hi hx he hs hf
theorem gn(i:Nat)(hN:X.N.Nodup)(hi:X.N[i]?=some x:=by rfl)(hx:Loc X.env.scope x:=by first|exact Or.inl rfl|exact Or.inr rfl)(hf:X.fn x=true∨X.env.scope.names.lookup x=some .local:=by first|exact .inl rfl|exact .inr rfl|assumption):PG X (.Name x pos) (cF i):=v8 hN hi hx hf
theorem gc(i:Nat)(hN:X.N.Nodup:=by exact of_decide_eq_true (by with_unfolding_all rfl))(hi:X.N[i]?=some x:=by rfl)(hx:Loc X.env.scope x:=by exact Or.inl rfl)(hf:X.fn x=true∨X.env.scope.names.lookup x=some .local:=by first|exact .inl rfl|exact .inr rfl|assumption):PG X (.Name x pos) (cF i):=v8 hN hi hx hf
theorem a1(ha:PE X a ta)(hs:aG [a] X.env=(false,eval a X.env)::aG [] X.env:=by rfl):PA X [a] (au ta bz):=bI ha gk hs
theorem a2(ha:PE X a ta)(hb:PE X b tb)(hs:aG [a,b] X.env=(false,eval a X.env)::aG [b] X.env:=by rfl)(hs2:aG [b] X.env=(false,eval b X.env)::aG [] X.env:=by rfl):PA X [a,b] (au ta (au tb bz)):=bI ha (bI hb gk hs2) hs
theorem a3{c:Expr}{tc:TE}(ha:PE X a ta)(hb:PE X b tb)(hc:PE X c tc)(hs:aG [a,b,c] X.env=(false,eval a X.env)::aG [b,c] X.env:=by rfl)(hs1:aG [b,c] X.env=(false,eval b X.env)::aG [c] X.env:=by rfl)(hs2:aG [c] X.env=(false,eval c X.env)::aG [] X.env:=by rfl):PA X [a,b,c] (au ta (au tb (au tc bz))):=bI ha (a2 hb hc hs1 hs2) hs
variable{elt iter tg:Expr}{ifs:List Expr}{scope:Scope}{fi:List Nat}{wi:TI}{g:TG}{tc:TT}
theorem qc(hi:PI X tg iter wi)(ho:t6 k g)
  (h:∀C cl s₀ H₀ ex pn,PG (cC X (Bk tg++fi.map fun i=>X.N.getD i "") scope C cl s₀ H₀ ex pn) tg g/\BG (cC X (Bk tg++fi.map fun i=>X.N.getD i "") scope C cl s₀ H₀ ex pn) ifs tc/\PE (cC X (Bk tg++fi.map fun i=>X.N.getD i "") scope C cl s₀ H₀ ex pn) elt te)
  (hS:i7 X.env.scope scope k (Bk tg++fi.map fun i=>X.N.getD i "") X.N fi=true:=by with_unfolding_all rfl) (hc:X.calm=true:=by rfl)
  (hs:∀x,sI iter X.env x=pure x:=by intro _;rfl):PE X (.ListComp elt [⟨tg,iter,ifs,0⟩] scope pos) (c8 k fi wi g tc te) :=
 AK hS hc hi (fun _ _ _ _ _ _=>(h _ _ _ _ _ _).1) ho (fun _ _ _ _ _ _=>(h _ _ _ _ _ _).2.1) (fun _ _ _ _ _ _=>(h _ _ _ _ _ _).2.2) hs
theorem qsc(j:Nat){y:Str}{spos py:Pos}(hN:X.N.Nodup)(hi:PI X tg iter wi)(ho:t6 k g)
  (h:∀C cl s₀ H₀ ex pn,PG (cC X (Bk tg++fi.map fun i=>X.N.getD i "") scope C cl s₀ H₀ ex pn) tg g/\BG (cC X (Bk tg++fi.map fun i=>X.N.getD i "") scope C cl s₀ H₀ ex pn) ifs tc/\PE (cC X (Bk tg++fi.map fun i=>X.N.getD i "") scope C cl s₀ H₀ ex pn) elt te)
  (hj:X.N[j]?=some y:=by rfl) (hy:Loc X.env.scope y:=by first|exact Or.inl rfl|exact Or.inr rfl)
  (hS:i7 X.env.scope scope k (Bk tg++fi.map fun i=>X.N.getD i "") X.N fi=true:=by with_unfolding_all rfl) (hc:X.calm=true:=by rfl)
  (hsw:mW (.ListComp elt [⟨tg,iter,ifs,0⟩] scope pos) (some (.Name y py)) spos.line X.env=pure true:=by rfl)
  (hs:∀x,sI iter X.env x=pure x:=by intro _;rfl) (hf:X.fn y=true∨X.env.scope.names.lookup y=some .local:=by first|exact .inl rfl|exact .inr rfl|assumption) :
  PS X (.Assign [.Name y py] (.ListComp elt [⟨tg,iter,ifs,0⟩] scope pos) spos) (aV (c8 k fi wi g tc te) (cF j)) :=
 uS hN hj hy hS hc hi (fun _ _ _ _ _ _=>(h _ _ _ _ _ _).1) ho (fun _ _ _ _ _ _=>(h _ _ _ _ _ _).2.1) (fun _ _ _ _ _ _=>(h _ _ _ _ _ _).2.2) hsw hs hf
end
end L2
end

section
set_option Elab.async false
set_option linter.all false
set_option maxRecDepth 100000
namespace L2
open PySem PySem.Spec PyProof.Rows
def Dk(K:Za)(n:Nat)(t:sw):TG:=fun v σ H Q=>∃a xs,v=.ref a/\aA K H a xs/\xs.length=n/\t xs σ H Q
theorem B7{X:Cx}{pos:Pos}{es:List Expr}{k:Nat}{t:sw}{n:Nat}(hc:X.calm=true)(h:Dx X es t)
  (hn:(lW es X.env).length=n:=by rfl) (hst:(lW es X.env).findIdx? (·.1)=none:=by rfl):PG X (.Tuple es k pos) (Dk X.K n t):=by
 intro J3 s σ H v u Q I r hw;obtain⟨a,xs,e1,hq,hl,hw⟩:=hw;subst e1;cases r;obtain⟨its,rv,ht,hz⟩:=I.list hq;have hsz:its.toArray.size=n:=by rw[bD,<-rv.length,hl]
 rw[assign_Tuple];refine am (vN ?_);unfold unpack;rw[hst,hn,<-hsz];refine am (ji (PySem.W.kun_itemsOf (I.ok.hd hc) ht.isList fun h' hx=>?_));have I1:Inv X J3 σ H { s with heap:=h' }:=I.kept (t':=s.toks) fun b o e=>hx b o (bP (aE e)) e;exact h J3 _ σ H xs _ Q I1 (by simpa using rv) hw
theorem jk:∀(k:Nat) (ys:Zb),aK (ys.map V.str) (strsFrom k ys)
 |_,[]=>.nil
 |k,y::ys=>.cons ⟨_,rfl⟩ (jk (k+1) ys)
def uP:V->List V->Hp->VK->Prop:=fun x vs H Q=>∃z y,x=.str z/\vs=[.str y]/\(y.length==0)=false/\z.length<=aj/\(ee z y).length<=aj/\∀l,H l=none->Q (.ref l) (upd H l (.lst ((ee z y).map V.str)))
theorem tF{X:Cx}:Dz X "str.split" uP:=by
 intro J3 s σ H x vs v us Q I rx rv h;obtain⟨z,y,rfl,rfl,hy,hz,hl,q⟩:=h;obtain⟨t,rfl⟩:=rx;obtain⟨u,rfl,ru⟩:=rv.one;obtain⟨t2,rfl⟩:=ru;have itself:ee z y=[z]->EP X J3 σ Q (.ref s.heap.objs.size) { s with heap:=s.heap.push { cls:=.type "list",data:=.seq #[.str z t] } }:=fun e=>by
  have h1:=q s.heap.objs.size (I.hok.fresh (aD _));rw[e]at h1 hl;refine⟨.ref s.heap.objs.size,_,I.laid (t':=s.toks) (o:=.lst ([z].map V.str)) (fun b ob e=>aQ _ e) (aD _) ⟨hl,[.str z t],0,.cons ⟨_,rfl⟩ .nil,cz _ rfl⟩,rfl,h1⟩
 by_cases c1:(decide (z.length<y.length) || decide (qg z<qg y))=true
 ·exact kU F.slot_str_split rfl F.entry_str_split (F.args_str_split_2 _ _) (meets_str_split_cannot_occur z y t t2 c1) (itself (by unfold ee;rw[if_pos c1]))
 ·have c1':(decide (z.length<y.length) || decide (qg z<qg y))=false:=by simpa using c1
  cases c2:(cD.Str.occurrences z y 0 z.length (z.length+1)).isEmpty with
  |true=>exact kU F.slot_str_split rfl F.entry_str_split (F.args_str_split_2 _ _) (meets_str_split_not_found z y t t2 c1' hy c2) (itself (by unfold ee;rw[if_neg c1,if_pos c2]))
  |false =>
   have e:ee z y=cD.Str.partsBetween z (cD.Str.occurrences z y 0 z.length (z.length+1)) y.length:=by
    unfold ee;rw[if_neg c1,if_neg (by rw[c2];decide)]
   have h1:=q s.heap.objs.size (I.hok.fresh (aD _));rw[e]at h1 hl;refine kU F.slot_str_split rfl F.entry_str_split (F.args_str_split_2 _ _) (meets_str_split_sep z y t t2 c1' hy c2 hz hl) ?_;exact⟨.ref s.heap.objs.size,_,I.laid (o:=.lst (_:List V)) (fun b ob e=>aQ _ e) (aD _) ⟨by rw[ap];exact hl,_,0,jk _ _,cz _ rfl⟩,rfl,h1⟩
end L2
end
section
namespace L2
open PySem PySem.Spec PyProof.Rows
open Sem (wp)
end L2
end
set_option Elab.async false
set_option linter.all false
set_option maxRecDepth 100000
set_option maxHeartbeats 4000000
namespace Mum
open PySem PySem.Spec PyProof.Rows L2
def qK(K:Za):TS :=
 aw (du (cT (aL rGeI V0 (aL Bp (tC (.int 10)) (tC (.int 18))))) (bt V0) (bT))
 (aw (aV (aL fZ (aL d_ (aL d_ (aL iA (aL fZ V0 (tC (.int 1000000007))) (tC (.int 69069))) (aL iA V1 (tC (.int 40503)))) (tC (.int 977))) (tC (.int 2147483629))) U2)
 (aw (aV (aL fZ (aL d_ (aL d_ (aL iA V2 V2) (aL iA V1 (tC (.int 7919)))) (aL fZ V0 (tC (.int 65537)))) (tC (.int 2147483587))) U3)
 (aw (aV (aL fZ (aL d_ (aL d_ (aL iA V3 V3) (aL iA V2 (tC (.int 31)))) (tC (.int 5))) (tC (.int 2147483563))) U4)
 (bt (aL d_ (aL iA (aL d_ (aL iA V2 (tC (.int 2147483659))) V3) (tC (.int 2147483693))) V4)))))
def si:List Str:=["cell","at","one","two","three"]
def ur(K:Za):TS :=
 aw (aV (de (cJ K) (aF (uu (mB K) V0 (dg) (d7 (tC (.int 12)))))) U1)
 (aw (fP (oj K (aF (uu (mB K) V0 (d7 (tC (.int 12))) (d7 (tC (.int 63)))))) (iH K 2 (bq U2 (bq U3 (ig)))) (aV (aL d_ (aL (cX K) V1 (aL fZ V2 (tC (.int 12)))) V3) (ve V1 (aL fZ V2 (tC (.int 12))) nU)))
 (bt (eF (i_ V1 (tC (.int 0)) (tC (.int 0))))))
def vv:List Str:=["script","cells","k","cell"]
def ut(K:Za):TS :=
 aw (aV (tC (.int 0)) (ve V0 (tC (.int 2)) nU))
 (bt V0)
def vw:List Str:=["pen"]
def uq(K:Za)(sp_law_spread:Sp):TS :=
 aw (du (cT (aL Az (aL (cX K) V0 (tC (.int 2))) V1)) (aw (aV (aL (cX K) V0 (tC (.int 1))) U2)
 (aw (aV (tC (.int 0)) U3)
 (aw (du (cT (aL Az V2 (de (dX K) (aF (aL (cX K) V0 (tC (.int 0))))))) (aV (aL (cX K) (aL (cX K) V0 (tC (.int 0))) V2) U3) (du (cT (aL B0 (de (dX K) (aF (aL (cX K) V0 (tC (.int 0))))) (tC (.int 0)))) (aV (aL fZ (aL (cX K) (aL (cX K) V0 (tC (.int 0))) (aL fZ (aL d_ (aL iA V2 (tC (.int 5))) (tC (.int 3))) (de (dX K) (aF (aL (cX K) V0 (tC (.int 0))))))) (aL d_ (aL Bp (tC (.int 10)) (tC (.int 17))) V2)) U3) (bT)))
 (aw (aV (aL d_ V2 (tC (.int 1))) (ve V0 (tC (.int 1)) nU))
 (aV (aZ sp_law_spread (br V3 V2)) (ve V0 (tC (.int 2)) nU)))))) (bT))
 (aw (aV (aL fZ (aL (cX K) V0 (tC (.int 2))) V1) U4)
 (aw (aV (aL yX (aL (cX K) V0 (tC (.int 2))) V1) (ve V0 (tC (.int 2)) nU))
 (bt V4)))
def vt:List Str:=["pen","many","at","cell","found"]
def sR(K:Za)(sp_law_take:Sp):TS :=
 aw (aV (tC (.str "abcdefghijklmnopqrstuvwxyz")) U2)
 (aw (aV (v3 K "str" (pM K) (tC (.str "")) (au (c8 1 [2,0] (pX (aF (tC (.int 7)))) U0 (gS) (aL yV V1 (aZ sp_law_take (br V2 (tC (.int 26)))))) bz)) U3)
 (aw (aV (aZ sp_law_take (br V0 (tC (.int 3)))) U4)
 (aw (aV (aZ sp_law_take (br V0 (tC (.int 26)))) U5)
 (aw (aV (aZ sp_law_take (br V0 (tC (.int 8)))) U6)
 (aw (aV (eF (bz)) U7)
 (aw (fP (pX (aF V1)) U8 (aw (aV (aL yV V2 (aL fZ (aL d_ V5 (aL iA (tC (.int 3)) V8)) (tC (.int 26)))) U9)
 (aw (aV (uu Ay V3 (dg) (d7 (aL fZ (aL d_ V6 (aL iA V8 (aL fZ V4 (tC (.int 2))))) (tC (.int 8))))) U10)
 (aw (aV (aL (cX K) (eF (i_ (tC (.int 0)) (de (dX K) (aF CM)) (aL yX (de (dX K) (aF CM)) (tC (.int 2))))) V4) U11)
 (eG (v3 K "list" iZ V7 (aF (aL f6 (aL f6 (uu Ay CM (dg) (d7 DQ)) V9) (uu Ay CM (d7 DQ) (dg))))))))))
 (bt V7)))))))
def t_:List Str:=["pen","many","letters","base","way","turn","size","found","k","sign","part","at"]
def xi(K:Za):TS :=
 du (cT (aL (xD K true) V1 V0)) (eG (v3 K "list" iZ V0 (aF V1))) (bT)
def x9:List Str:=["doors","door"]
def k6(K:Za)(sp_law_take:Sp)(sp_law_put:Sp):TS :=
 aw (aV (eF (bz)) U5)
 (aw (aV (aZ sp_law_take (br V0 (tC (.int 2)))) U6)
 (aw (fP (oj K (aF V3)) (iH K 2 (bq U7 (bq U8 (ig)))) (aw (fP (pX (au (aL (cX K) (eF (au (tC (.int 0)) (i_ (tC (.int 1)) (tC (.int 1)) (tC (.int 2))))) (aZ sp_law_take (br V0 (tC (.int 4))))) bz)) U9 (aw (aV (fz (au (tC (.str "say")) (au (aL (cX K) V2 (aZ sp_law_take (br V0 (de (dX K) (aF V2))))) bz))) U10)
 (eG (aZ sp_law_put (au V5 (au (fz (au V8 (au CM (au (aL (cX K) V3 (aZ sp_law_take (br V0 (de (dX K) (aF V3))))) bz)))) bz))))))
 (aw (fP (cU K V1) U11 (fP (pX (au (aL (cX K) (eF (au V4 (i_ (tC (.int 1)) (tC (.int 1)) (tC (.int 2))))) (aZ sp_law_take (br V0 (tC (.int 4))))) bz)) U9 (eG (aZ sp_law_put (au V5 (au (fz (au V8 (au (fz (br (tC (.str "ask")) DQ)) (au (aL (cX K) V3 (aZ sp_law_take (br V0 (de (dX K) (aF V3))))) bz)))) bz))))))
 (aw (aV (aL (cX K) (eF (au (uu (mB K) V3 (d7 (aL d_ V7 (tC (.int 1)))) (dg)) (aF (uu (mB K) V3 (dg) (d7 V7))))) V6) U12)
 (du (yF (cT (aL (C7 K) DP (eF (bz)))) (cT (aL z9 (aZ sp_law_take (br V0 (tC (.int 3)))) (tC (.int 0))))) (eG (aZ sp_law_put (au V5 (au (fz (au V8 (au (fz (aF (tC (.str "still")))) (au (aL (xC K) DP (aZ sp_law_take (br V0 (de (dX K) (aF DP))))) bz)))) bz)))) (bT))))))
 (bt V5)))
def lJ:List Str:=["pen","asks","says","rooms","full","doors","down","k","room","turn","sign","ask","later"]
def sS(K:Za)(sp_law_draw_doors:Sp)(sp_law_names:Sp)(sp_law_take:Sp)(sp_law_anew:Sp):TS :=
 aw (eG (aZ sp_law_anew (aF V0)))
 (aw (aV (aZ sp_law_names (br V0 (tC (.int 8)))) U3)
 (aw (aV (uu (mB K) V3 (dg) (d7 (aL d_ (tC (.int 1)) (aL (cX K) (eF (au (tC (.int 0)) (au (tC (.int 1)) (au (tC (.int 1)) (i_ (tC (.int 2)) (tC (.int 2)) (tC (.int 3))))))) (aZ sp_law_take (br V0 (tC (.int 6)))))))) U4)
 (aw (aV (uu (mB K) V3 (d7 (tC (.int 4))) (d7 (aL d_ (tC (.int 5)) (aL (cX K) (eF (au (tC (.int 0)) (au (tC (.int 1)) (au (tC (.int 1)) (i_ (tC (.int 2)) (tC (.int 2)) (tC (.int 3))))))) (aZ sp_law_take (br V0 (tC (.int 6)))))))) U5)
 (aw (aV (aZ sp_law_names (br V0 (aL d_ (tC (.int 1)) (aZ sp_law_take (au V0 (aF V1)))))) U6)
 (aw (aV (aZ sp_law_draw_doors (au V0 (au V4 (i_ V5 V6 V2)))) U7)
 (bt (fz (au V4 (i_ V5 V6 V7)))))))))
def ua:List Str:=["pen","most","full","words","asks","says","rooms","doors"]
def oX(K:Za)(C_Machine:Addr)(sp_Machine_init:Sp):TS :=
 bt (vY C_Machine sp_Machine_init [] E0 (au (de (cJ K) (aF (aL (xC K) V0 (tC (.int 0))))) (au (de (cJ K) (aF (aL (xC K) V0 (tC (.int 1))))) (au (de (cJ K) (aF (aL (xC K) V0 (tC (.int 2))))) (au (de (cJ K) (aF (aL (xC K) V0 (tC (.int 3))))) bz)))))
def pj:List Str:=["told"]
def xj(K:Za):TS :=
 bt (jl (aL CK V0 (tC (.str ""))) (jl (aL rLeI (de (dX K) (aF V0)) (tC (.int 8))) (de (yY K) (aF (c8 1 [] (Di V0) U0 (gS) (aL rInS V0 (tC (.str "abcdefghijklmnopqrstuvwxyz"))))))))
def x_:List Str:=["text"]
def xu(K:Za):TS :=
 aw (aV (qU) U1)
 (aw (fP (cU K V0) U2 (pL V1 V2 (tC (.bl true))))
 (bt V1))
def ye:List Str:=["things","keys","thing"]
def jA(K:Za)(sp_is_name:Sp)(sp_as_keys:Sp):TS :=
 aw (du (cT (aL z9 (de (dX K) (aF V0)) (tC (.int 0)))) (bt (tC (.int 0))) (bT))
 (aw (aV (aZ sp_as_keys (aF V2)) U3)
 (aw (fP (oj K (aF V0)) (iH K 2 (bq U4 (bq U5 (ig)))) (aw (du (BS (cT (aL z9 V4 V1)) (BS (tB (An K V5 V3)) (qN (tB (aZ sp_is_name (aF V5)))))) (bt V4) (bT))
 (pL V3 V5 (tC (.bl true)))))
 (bt (tC .non))))
def jR:List Str:=["names","most","taken","ahead","number","name"]
def qM(K:Za)(a_STILL:Addr):TS :=
 bt (aL nV (aL nV (c8 1 [] (cU K V0) U0 (gS) (fz (br (tC (.str "ask")) V0))) (c8 1 [] (cU K V1) U0 (gS) (fz (br (tC (.str "say")) V0)))) (eF (aF (tC (.ref a_STILL)))))
def sj:List Str:=["asks","says"]
def jB(K:Za)(sp_as_keys:Sp):TS :=
 aw (aV (aZ sp_as_keys (aF V1)) U3)
 (aw (aV (uC) U4)
 (aw (fP (oj K (aF V0)) (iH K 2 (bq U5 (bq U6 (ig)))) (aw (du (BS (cT (aL z9 V5 (tC (.int 2000)))) (tB (An K V6 V4))) (bt V5) (bT))
 (aw (du (BS (tB (mJ K (aL (xC K) V6 (tC (.int 0))) V3)) (BS (cT (aL (xD K true) (aL (xC K) V6 (tC (.int 1))) V2)) (tB (mJ K (aL (xC K) V6 (tC (.int 2))) V3)))) (bt V5) (bT))
 (pL V4 V6 (tC (.bl true))))))
 (bt (tC .non))))
def jS:List Str:=["doors","rooms","signs","own_rooms","ahead","number","door"]
def fO(K:Za):TS :=
 aw (aV (uC) U1)
 (aw (fP (cU K V0) (iH K 3 (bq U2 (bq U3 (bq U4 (ig))))) (eG (v3 K "list" iZ (v3 K "dict" v6 V1 (br (fz (au V2 (aF V3))) (eF (bz)))) (aF V4))))
 (bt V1))
def fQ:List Str:=["doors","goals","start","sign","goal"]
def nI(K:Za)(a_STILL:Addr):TS :=
 aw (aV (qU) U2)
 (aw (aV (eF (aF V1)) U3)
 (aw (yz (cT (aL B0 (de (dX K) (aF V3)) (tC (.int 0)))) (aw (aV (CZ K "list" C6 V3) U4)
 (fP (Dj K (yE K V0 (fz (br V4 (tC (.ref a_STILL)))) (fz (bz)))) U5 (du (tB (mJ K V5 V2)) (aw (pL V2 V5 (tC (.bl true)))
 (eG (v3 K "list" iZ V3 (aF V5)))) (bT)))))
 (bt V2)))
def oK:List Str:=["goals","room","led","waiting","here","goal"]
def j3(K:Za):TS :=
 aw (fP (oj K (aF V0)) (iH K 2 (bq U2 (bq U3 (ig)))) (du (tB (An K V3 (vZ K V1 V3))) (bt V2) (bT)))
 (bt (tC .non))
def kG:List Str:=["rooms","led","number","room"]
def sP(K:Za):TS :=
 du (tB (Bl V1)) (qO) (bT)
def t8:List Str:=["part","number"]
def qJ(K:Za)(sp_need_none:Sp)(sp_first_wrong_door:Sp)(sp_door_signs:Sp)(sp_first_wrong_name:Sp):TS :=
 aw (eG (aZ sp_need_none (br (tC (.str "asks")) (aZ sp_first_wrong_name (i_ V0 (tC (.int 4)) (eF (bz)))))))
 (aw (eG (aZ sp_need_none (br (tC (.str "says")) (aZ sp_first_wrong_name (i_ V1 (tC (.int 4)) V0)))))
 (aw (eG (aZ sp_need_none (br (tC (.str "rooms")) (aZ sp_first_wrong_name (i_ V2 (tC (.int 150)) (eF (bz)))))))
 (eG (aZ sp_need_none (au (tC (.str "doors")) (aF (aZ sp_first_wrong_door (i_ V3 V2 (aZ sp_door_signs (br V0 V1))))))))))
def sh:List Str:=["asks","says","rooms","doors"]
def k_(K:Za):TS :=
 aw (aV (qU) U2)
 (aw (fP (cU K V0) U3 (pL V2 V3 (eF (bz))))
 (aw (fP (cU K V1) U4 (eG (v3 K "list" iZ (vZ K V2 (aL (xC K) V4 (tC (.int 0)))) (aF V4))))
 (bt V2)))
def lL:List Str:=["rooms","doors","leaving","room","door"]
def k7(K:Za):TS :=
 bt (de (yY K) (au (c8 1 [] (cU K V0) U0 (gS) (aL z9 (aL (xC K) (aL (xC K) V0 (tC (.int 1))) (tC (.int 0))) (tC (.str "ask")))) bz))
def lK:List Str:=["doors"]
def jC(K:Za)(sp_need_none:Sp)(sp_first_led_round:Sp)(sp_led_by_still:Sp)(sp_goals_by_start_and_sign:Sp)(sp_as_keys:Sp)(sp_has_asks_alone:Sp)(sp_doors_by_start:Sp)(sp_need_parts:Sp):TS :=
 aw (eG (aZ sp_need_parts (au V1 (i_ V2 V3 V4))))
 (aw (q_ K V0 (de (cJ K) (aF V1)) "own_asks")
 (aw (q_ K V0 (de (cJ K) (aF V2)) "own_says")
 (aw (q_ K V0 (de (cJ K) (aF V3)) "own_rooms")
 (aw (q_ K V0 (de (cJ K) (aF V4)) "own_doors")
 (aw (q_ K V0 (aZ sp_doors_by_start (br V3 V4)) "leaving")
 (aw (q_ K V0 (aZ sp_as_keys (au (c8 1 [0] (cU K V3) U0 (tB (aZ sp_has_asks_alone (aF (vZ K (sT K V1 "leaving") V0)))) V0) bz)) "quiet")
 (aw (q_ K V0 (aZ sp_goals_by_start_and_sign (aF V4)) "sign_goals")
 (aw (q_ K V0 (de (AB K) (au (c8 1 [0] (cU K V3) U0 (gS) (fz (br V0 (aZ sp_led_by_still (au (sT K V1 "sign_goals") (aF V0)))))) bz)) "still_led")
 (eG (aZ sp_need_none (br (tC (.str "still")) (aZ sp_first_led_round (au V3 (aF (sT K V0 "still_led")))))))))))))))
def jT:List Str:=["self","asks","says","rooms","doors"]
def cH(p:Addr)(H H':Hp):Prop:=∀b o,H b=some o->b≠p->H' b=some o
theorem cH.refl(p:Addr)(H:Hp):cH p H H:=fun _ _ h _=>h
theorem cH.trans{p:Addr}{H H1 H2:Hp}(a:cH p H H1)(b:cH p H1 H2):cH p H H2:=fun c o h n=>b c o (a c o h n) n
theorem ae.exB{p:Addr}{H H':Hp}(a:ae H H'):cH p H H':=fun b o h _=>a b o h
theorem cH.upd(p:Addr)(H:Hp)(o:HO):cH p H (upd H p o):=fun b u h n=>by rw[ai n];exact h
theorem ae.new{H:Hp}{a:Addr}{o:HO}(h:H a=none):ae H (upd H a o):=fun b u e=>by rw[ai (ah e h)];exact e
theorem cH.free{p:Addr}{H H':Hp}(e:cH p H H'){u:HO}(hp:H' p=some u){l:Addr}(h:H' l=none):H l=none:=by
 cases q:H l with
 |none=>rfl
 |some o =>
  by_cases z:l=p
  ·subst z;rw[hp]at h;cases h
  ·rw[e l o q z]at h;cases h
theorem kp{H:Hp}{a b:Addr}{o x:HO}(h:H b=some o)(n:H a=none):upd H a x b=some o:=by rw[ai (ah h n)];exact h
structure wS(H:Hp)(p c:Addr)(at_ rest:Int)(ns:List Int):Prop where
 pen:H p=some (.lst [.ref c,.int at_,.int rest])
 cells:H c=some (.lst (ns.map V.int))
 at0:0<=at_
 rest0:0<=rest
theorem wS.ne{H:Hp}{p c:Addr}{a r:Int}{ns:List Int}(h:wS H p c a r ns):c≠p:=by
 intro e;have h1:=h.pen;have h2:=h.cells;rw[e,h1]at h2;injection h2 with h2;injection h2 with h2;cases ns with
 |nil=>cases h2
 |cons n ns=>injection h2 with h2;cases h2
def eZ(H:Hp)(p c:Addr):Prop:=∃a r ns,wS H p c a r ns
theorem eZ.ex{H H':Hp}{p c:Addr}(h:eZ H p c)(e:ae H H'):eZ H' p c:=by
 obtain⟨a,r,ns,h1,h2,h3,h4⟩:=h;exact⟨a,r,ns,e _ _ h1,e _ _ h2,h3,h4⟩
theorem eZ.pen{H:Hp}{p c:Addr}(h:eZ H p c):∃o,H p=some o:=by
 obtain⟨a,r,ns,h1,_⟩:=h;exact⟨_,h1⟩
theorem eZ.cell{H:Hp}{p c:Addr}(h:eZ H p c):∃o,H c=some o:=by
 obtain⟨a,r,ns,_,h1,_⟩:=h;exact⟨_,h1⟩
theorem eZ.upd{H:Hp}{p c l:Addr}{o:HO}(h:eZ H p c)(h1:p≠l)(h2:c≠l):eZ (upd H l o) p c:=by
 obtain⟨a,r,ns,g1,g2,g3,g4⟩:=h;exact⟨a,r,ns,by rw[ai h1];exact g1,by rw[ai h2];exact g2,g3,g4⟩
theorem eZ.nep{H:Hp}{p c l:Addr}(h:eZ H p c)(hl:H l=none):p≠l:=let⟨_,e⟩:=h.pen;ah e hl
theorem eZ.nec{H:Hp}{p c l:Addr}(h:eZ H p c)(hl:H l=none):c≠l:=let⟨_,e⟩:=h.cell;ah e hl
theorem cH.new{p:Addr}{H:Hp}{a:Addr}{o:HO}(h:H a=none):cH p H (L2.upd H a o):=fun b u e _=>by rw[ai (ah e h)];exact e
inductive iS (vs:List V)(H:Hp)(Q:VK)(E:XK):Prop
 |mk (c a:Int):(vs=[.int c,.int a])->(0<=a)->(∀r:Int,0<=r->Q (.int r) H)->iS  vs H Q E
theorem kD{i j:Int}(h1:-(2 ^ 64)<j)(h2:j<2 ^ 64):z8 i j:=.inr ⟨h1,h2⟩
theorem xx{K:Za}{vs:List V}{H:Hp}{Q:VK}{E:XK}(h:iS vs H Q E):qK K (cf Q) (start si vs) H:=by
 obtain⟨c,a,rfl,ha,k⟩:=h;refine⟨_,rfl,_,_,rfl,rfl,⟨by decide,by decide,by decide⟩,_,_,rfl,rfl,_,rfl,?_⟩;refine pb (fun h=>?_) (fun _=>?_)
 ·refine⟨_,rfl,k _ ?_⟩;have:=of_decide_eq_true h;have e:((10:Int) ^ (18:Int).toNat)=1000000000000000000:=by decide
  omega
 ·have one:∀z:Int,0<=z % 2147483629/\z % 2147483629<2147483629:=fun z=>⟨kL _ (by decide),kK _ (by decide)⟩;have two:∀z:Int,0<=z % 2147483587/\z % 2147483587<2147483587:=fun z=>⟨kL _ (by decide),kK _ (by decide)⟩;have three:∀z:Int,0<=z % 2147483563/\z % 2147483563<2147483563:=fun z=>⟨kL _ (by decide),kK _ (by decide)⟩;refine⟨_,rfl,_,_,rfl,rfl,(by show(0:Int)<1000000007;decide),_,_,rfl,rfl,kD (by decide) (by decide),_,rfl,_,_,rfl,rfl,kD (by decide) (by decide),_,_,rfl,rfl,_,_,rfl,rfl,_,_,rfl,rfl,(by show(0:Int)<2147483629;decide),?_⟩;generalize hz1:(c % 1000000007 * 69069+a * 40503+977)=z1;obtain⟨o1,o2⟩:=one z1;generalize z1 % 2147483629=o at o1 o2 ⊢;refine⟨_,rfl,_,rfl,_,_,rfl,rfl,kD (by omega) (by omega),_,rfl,_,_,rfl,rfl,kD (by decide) (by decide),_,_,rfl,rfl,_,rfl,_,_,rfl,rfl,(by show(0:Int)<65537;decide),_,_,rfl,rfl,_,_,rfl,rfl,(by show(0:Int)<2147483587;decide),?_⟩;generalize hz2:(o * o+a * 7919+c % 65537)=z2;obtain⟨p1,p2⟩:=two z2;generalize z2 % 2147483587=q at p1 p2 ⊢;refine⟨_,rfl,_,rfl,_,_,rfl,rfl,kD (by omega) (by omega),_,rfl,_,_,rfl,rfl,kD (by decide) (by decide),_,_,rfl,rfl,_,_,rfl,rfl,_,_,rfl,rfl,(by show(0:Int)<2147483563;decide),?_⟩;generalize hz3:(q * q+o * 31+5)=z3;obtain⟨r1,r2⟩:=three z3;generalize z3 % 2147483563=r at r1 r2 ⊢;refine⟨_,rfl,_,_,rfl,rfl,kD (by decide) (by decide),_,rfl,_,_,rfl,rfl,_,_,rfl,rfl,kD (by decide) (by decide),_,rfl,_,_,rfl,rfl,k _ ?_⟩;omega
def qY:Sp:=fun vs H Q _=>∃p c,vs=[.ref p]/\eZ H p c/\∀H',eZ H' p c->cH p H H'->Q (.ref p) H'
theorem Ax{K:Za}{vs:List V}{H:Hp}{Q:VK}{E:XK}(h:qY vs H Q E):ut K (cf Q) (start vw vs) H:=by
 obtain⟨p,c,rfl,⟨a,r,ns,h⟩,k⟩:=h;refine⟨_,rfl,p,_,_,_,rfl,rfl,h.pen,rfl,_,rfl,k _ ⟨a,0,ns,aa,?_,h.at0,Int.le_refl 0⟩ (cH.upd _ _ _)⟩;rw[ai h.ne];exact h.cells
theorem wO{ns:List Int}{a:Int}(h0:0<=a)(h1:a<ns.length):∃z,ud (ns.map V.int) a=some (.int z):=by
 obtain⟨n,rfl⟩:=jq h0;have hn:n<ns.length:=by omega
 exact⟨ns[n],eE (by simp[hn])⟩
inductive fU (vs:List V)(H:Hp)(Q:VK)(E:XK):Prop
 |mk (p c:Addr) (m:Int):(vs=[.ref p,.int m])->(eZ H p c)->(0<m)->(m<1073741824)->(∀(r:Int) (H':Hp),0<=r->r<m->eZ H' p c->cH p H H'->Q (.int r) H')->fU  vs H Q E
theorem eV{H:Hp}{Q:VK}{E:XK}{p c:Addr}{m:Int}(hp:eZ H p c)(m0:0<m)(m1:m<1073741824)(k:∀(r:Int) (H':Hp),0<=r->r<m->eZ H' p c->cH p H H'->Q (.int r) H'):fU [.ref p,.int m] H Q E:=by
 exact⟨p,c,m,rfl,hp,m0,m1,k⟩
theorem Ar{K:Za}{vs:List V}{H:Hp}{Q:VK}{E:XK}(h:fU vs H Q E):uq K iS (cf Q) (start vt vs) H:=by
 obtain⟨p,c,m,rfl,⟨a,r,ns,h⟩,hm,hm2,k⟩:=h;have fin:∀(H':Hp) (a' r':Int) (x y:Option V),wS H' p c a' r' ns->cH p H H' ->
   (aw (aV (aL fZ (aL (cX K) V0 (tC (.int 2))) V1) U4) (aw (aV (aL yX (aL (cX K) V0 (tC (.int 2))) V1) (ve V0 (tC (.int 2)) nU)) (bt V4)))
    (cf Q) [some (.ref p),some (.int m),x,y,none] H':=by
  intro H' a' r' x y h' ex;refine⟨_,rfl,p,_,2,_,rfl,rfl,aA.of h'.pen,rfl,_,rfl,_,_,rfl,rfl,hm,?_⟩;refine⟨_,rfl,p,_,2,_,rfl,rfl,aA.of h'.pen,rfl,_,rfl,_,_,rfl,rfl,⟨hm,hm2⟩,_,rfl,p,_,_,_,rfl,rfl,h'.pen,rfl,?_⟩;refine⟨_,rfl,k _ _ (kL _ (by omega)) (kK _ hm) ⟨a',_,ns,aa,?_,h'.at0,Int.ediv_nonneg h'.rest0 (by omega)⟩ (ex.trans (cH.upd _ _ _))⟩;rw[ai h'.ne];exact h'.cells
 refine⟨_,rfl,p,_,2,_,rfl,rfl,aA.of h.pen,rfl,_,rfl,_,_,rfl,rfl,_,rfl,?_⟩;refine pb (fun h1=>?_) (fun h1=>?_)
 ·-- at=pen[1];cell=0;if at<len(pen[0])
  refine⟨_,rfl,p,_,1,_,rfl,rfl,aA.of h.pen,rfl,?_⟩;have la:(V.int ((ns.map V.int).length:Nat))=V.int (ns.length:Nat):=by rw[ap]
  refine⟨_,rfl,_,rfl,p,_,0,_,rfl,rfl,aA.of h.pen,rfl,.inl ⟨c,_,rfl,.inl (aA.of h.cells),_,_,rfl,la,_,rfl,?_⟩⟩;refine pb (fun h2=>?_) (fun h2=>?_)
  ·obtain⟨z,hz⟩:=wO (ns:=ns) h.at0 (of_decide_eq_true h2);refine⟨_,rfl,p,_,0,_,rfl,rfl,aA.of h.pen,rfl,_,rfl,c,_,_,_,rfl,rfl,aA.of h.cells,hz,?_⟩;refine⟨_,rfl,_,_,rfl,rfl,_,rfl,p,_,_,_,rfl,rfl,h.pen,rfl,?_⟩;refine⟨_,rfl,_,rfl,_,_,rfl,h.at0,fun q hq=>⟨_,rfl,p,_,_,_,rfl,rfl,aa,rfl,?_⟩⟩;rw[mI];refine fin _ (a+1) q _ _ ⟨aa,by rw[ai h.ne];exact h.cells,by have:=h.at0;omega,hq⟩ (cH.upd _ _ _)
  ·refine⟨_,rfl,p,_,0,_,rfl,rfl,aA.of h.pen,rfl,.inl ⟨c,_,rfl,.inl (aA.of h.cells),_,_,la,rfl,_,rfl,?_⟩⟩;refine pb (fun h3=>?_) (fun h3=>?_)
   ·have hl:(0:Int)<ns.length:=of_decide_eq_true h3;obtain⟨z,hz⟩:=wO (ns:=ns) (a:=(a * 5+3) % (ns.length:Int)) (kL _ (by omega)) (kK _ hl);refine⟨_,rfl,p,_,0,_,rfl,rfl,aA.of h.pen,rfl,_,rfl,_,_,rfl,rfl,kD (by decide) (by decide),_,_,rfl,rfl,_,rfl,p,_,0,_,rfl,rfl,aA.of h.pen,rfl,.inl ⟨c,_,rfl,.inl (aA.of h.cells),_,_,rfl,la,hl,c,_,_,_,rfl,rfl,aA.of h.cells,hz,?_⟩⟩;refine⟨_,_,rfl,rfl,⟨by decide,by decide,by decide⟩,_,rfl,_,_,rfl,rfl,_,_,rfl,rfl,?_,?_⟩
    ·have e:((10:Int) ^ (17:Int).toNat)=100000000000000000:=by decide
     have:=h.at0;show(0:Int)<10 ^ (17:Int).toNat+a;omega
    refine⟨_,rfl,_,_,rfl,rfl,_,rfl,p,_,_,_,rfl,rfl,h.pen,rfl,?_⟩;refine⟨_,rfl,_,rfl,_,_,rfl,h.at0,fun q hq=>⟨_,rfl,p,_,_,_,rfl,rfl,aa,rfl,?_⟩⟩;rw[mI];refine fin _ (a+1) q _ _ ⟨aa,by rw[ai h.ne];exact h.cells,by have:=h.at0;omega,hq⟩ (cH.upd _ _ _)
   ·refine⟨_,rfl,_,_,rfl,rfl,_,rfl,p,_,_,_,rfl,rfl,h.pen,rfl,?_⟩;refine⟨_,rfl,_,rfl,_,_,rfl,h.at0,fun q hq=>⟨_,rfl,p,_,_,_,rfl,rfl,aa,rfl,?_⟩⟩;rw[mI];refine fin _ (a+1) q _ _ ⟨aa,by rw[ai h.ne];exact h.cells,by have:=h.at0;omega,hq⟩ (cH.upd _ _ _)
 ·exact fin H a r _ _ h (cH.refl _ _)
inductive mL(K:Za)(vs:List V)(H:Hp)(Q:VK)(E:XK):Prop
 |mk (a:Addr) (ns:List Int):(vs=[.ref a])->(aA K H a (ns.map V.int))->(ns.length<=63)->(∀(p c:Addr) (H':Hp),H p=none->eZ H' p c->ae H H'->Q (.ref p) H')->mL K vs H Q E
theorem p0(ns:List Int)(lo hi:Option Int):∃ms:List Int,dD (ns.map V.int) lo hi=ms.map V.int/\ms.length=(dD (ns.map V.int) lo hi).length:=by
 refine⟨(ns.drop (HT.sIx (ns.map V.int).length 0 lo)).take (HT.sIx (ns.map V.int).length (ns.map V.int).length hi-HT.sIx (ns.map V.int).length 0 lo),?_,?_⟩
 ·unfold dD;rw[List.map_take,List.map_drop]
 ·unfold dD;rw[bf,bf,eU,eU,ap]
theorem Au{K:Za}{vs:List V}{H:Hp}{Q:VK}{E:XK}(h:mL K vs H Q E):ur K (cf Q) (start vv vs) H:=by
 obtain⟨a,ns,rfl,hs,hn,k⟩:=h;obtain⟨c0,e0,l0⟩:=p0 ns none (some 12);obtain⟨c1,e1,l1⟩:=p0 ns (some 12) (some 63);have hlen:c1≠[]->c0.length=12:=by
  intro hne;have hc1:0<c1.length:=by cases c1 with|nil=>exact absurd rfl hne|cons _ _=>simp
  rw[l1]at hc1;rw[l0];unfold dD at hc1 ⊢;rw[bf,eU,ap]at hc1;rw[bf,eU,ap];have s1:HT.sIx ns.length 0 (some 12)=min 12 ns.length:=HT.sIx_nat _ _ 12;have s2:HT.sIx ns.length ns.length (some 12)=min 12 ns.length:=HT.sIx_nat _ _ 12;rw[HT.sIx_none,s2];rw[s1]at hc1;omega
 refine⟨_,rfl,_,rfl,a,_,rfl,hs,fun q hq=>.inl ⟨q,_,rfl,.inl (aA.of aa),fun c hc=>?_⟩⟩;rw[e0]at hc ⊢;have hcH:H c=none:=by
  have:c≠q:=fun z=>by subst z;rw[aa]at hc;cases hc
  rw[ai this]at hc;exact hc
 have hS:ae H (upd (upd H q (.lst (c0.map V.int))) c (.lst (c0.map V.int))):=(ae.new hq).trans (ae.new hc);refine⟨_,rfl,_,rfl,_,rfl,a,_,rfl,hS.seq hs,fun r hr=>⟨r,rfl,⟨_,aA.of aa⟩,?_⟩⟩;rw[e1];have hcr:c≠r:=ah aa hr;refine gH (xs:=c1.map V.int) (fun i σ H'=>∃(ms:List Int) (x y:Option V),σ=[some (.ref a),some (.ref c),x,y]/\H' c=some (.lst (ms.map V.int))/\ms.length=c0.length/\H' r=some (.lst (c1.map V.int))/\ae H H')
  ⟨c0,none,none,rfl,kp aa hr,rfl,aa,hS.trans (ae.new hr)⟩ (fun i σ H' _ ⟨ms,x,y,_,_,_,h,_⟩=>aA.of h) ?_ ?_
 ·rintro i x σ H' t hi ⟨ms,u,v,rfl,hcell,hml,hr',hS'⟩ ht;have hi':i<c1.length:=by
   have:=(db.mp hi).1;rwa[ap]at this
  have h12:=hlen (fun z=>by rw[z]at hi';simp at hi');obtain⟨z,rfl⟩:∃z,x=V.int z:=by
   rw[cA,qj hi']at hi;exact⟨_,(c7 hi).symm⟩
  have hcell1:upd H' t (.tup [.int i,.int z]) c=some (.lst (ms.map V.int)):=kp hcell ht;have hidx:(i:Int) % 12=((i % 12:Nat):Int):=by omega
  have hlt:i % 12<ms.length:=by omega
  refine⟨t,_,rfl,bN.of aa,rfl,_,_,rfl,_,_,rfl,rfl,?_⟩;have hat:ud (ms.map V.int) ((i:Int) % 12)=some (.int ms[i % 12]):=by rw[hidx];exact eE (by simp[hlt])
  refine⟨_,rfl,_,rfl,_,_,rfl,rfl,(by show(0:Int)<12;decide),c,_,_,_,rfl,rfl,aA.of hcell1,hat,_,rfl,_,_,rfl,rfl,_,rfl,_,rfl,_,_,rfl,rfl,(by show(0:Int)<12;decide),c,_,_,i % 12,rfl,rfl,hcell1,?_,?_⟩
  ·rw[hidx];unfold z_;rw[if_pos (by omega),if_pos (by rw[ap];omega)];rw[kW]
  ·refine⟨ms.set (i % 12) (ms[i % 12]+z),_,_,rfl,?_,by rw[qE];exact hml,?_,?_⟩
   ·rw[aa,List.map_set]
   ·rw[ai hcr.symm];exact kp hr' ht
   ·intro b o e;rw[ai (ah e hcH)];exact kp (hS' b o e) ht
 ·rintro σ H' ⟨ms,x,y,rfl,hcell,hml,hr',hS'⟩;refine⟨_,rfl,(by show 3<=aj;decide),fun p hp=>k p c _ (hS'.free hp) ⟨0,0,ms,aa,kp hcell hp,Int.le_refl _,Int.le_refl _⟩ (hS'.trans (ae.new hp))⟩
def lA(c:Nat):Prop:=97<=c/\c<=122
structure iK(w:Str):Prop where
 lo:1<=w.length
 hi:w.length<=8
 al:∀c∈w.cps.toList,lA c
theorem wQ:∀n:Nat,n<26->(("abcdefghijklmnopqrstuvwxyz":Str).cps.toList)[n]?=some (97+n):=by decide +kernel
theorem wP:("abcdefghijklmnopqrstuvwxyz":Str).length<=aj:=by decide +kernel
theorem zX{r:Int}(h0:0<=r)(h1:r<26):ud (("abcdefghijklmnopqrstuvwxyz":Str).cps.toList) r=some (97+r.toNat):=by
 obtain⟨n,rfl⟩:=jq h0;rw[kW];exact eE (wQ n (by omega))
theorem o_(cs:List Nat):∀acc:Array Nat,((cs.map fun c=>(⟨#[c]⟩:Str)).foldl (fun acc p=>acc++("":Str).cps++p.cps) acc).toList=acc.toList++cs:=by
 have e:("":Str).cps=#[]:=by decide +kernel
 induction cs with
 |nil=>intro acc;simp
 |cons c cs ih =>
  intro acc;rw[aS,kJ,ih,e];simp
theorem u9(cs:List Nat):(jr "" (cs.map fun c=>(⟨#[c]⟩:Str))).cps.toList=cs:=by
 unfold jr cD.Str.glued;cases cs with
 |nil=>rfl
 |cons c cs =>
  rw[aS];show((cs.map fun c=>(⟨#[c]⟩:Str)).foldl (fun acc p=>acc++("":Str).cps++p.cps) #[c]).toList=_;rw[o_]
  rfl
theorem j7{a b:Str}(h:a.cps.toList=b.cps.toList):a=b:=by
 cases a with|mk x=>cases b with|mk y=>exact congrArg Str.mk (Array.toList_inj.mp h)
theorem cB(a:Str):a.length=a.cps.toList.length:=by simp[Str.length]
theorem cZ(a b:Str):(a++b).cps.toList=a.cps.toList++b.cps.toList:=by
 show(a.cps++b.cps).toList=_;simp
theorem zO(z:Str)(m:Nat):(oy z none (some (m:Int))).cps.toList=z.cps.toList.take m:=by
 unfold oy;rw[HT.sIx_none,HT.sIx_nat,kO,qi,cB];show List.take _ _=_;rw[List.take_eq_take_iff];omega
theorem zQ(z:Str)(m:Nat):(oy z (some (m:Int)) none).cps.toList=z.cps.toList.drop m:=by
 unfold oy;rw[HT.sIx_none,HT.sIx_nat,cB];show List.take _ _=_;rw[qe (by rw[eU];omega)];by_cases h:m<=z.cps.toList.length
 ·rw[Nat.min_eq_left h]
 ·rw[Nat.min_eq_right (by omega),List.drop_length,kM (by omega)]
def c_(way size k:Nat):Nat:=(size+k * (way % 2)) % 8
def uc(way m:Nat):Nat:=if way=0 then 0 else if way=1 then m else m / 2
def jj(b:List Nat)(way turn size k:Nat):List Nat :=
 (b.take (c_ way size k)).take (uc way (c_ way size k))++[97+(turn+3 * k) % 26]++(b.take (c_ way size k)).drop (uc way (c_ way size k))
def sL(b:List Nat)(way turn size k:Nat):Str:=⟨(jj b way turn size k).toArray⟩
theorem kY{b:List Nat}(hb:b.length=7)(way turn size k:Nat):(jj b way turn size k).length=c_ way size k+1:=by
 have h8:c_ way size k<8:=m_ _ (by decide);unfold jj;rw[bd,bd,bf,eU,bf,hb];have:uc way (c_ way size k)<=c_ way size k:=by unfold uc;split;omega;split;omega;omega
 simp;omega
theorem Ag{b:List Nat}(hb:b.length=7)(hl:∀c∈b,lA c)(way turn size k:Nat):iK (sL b way turn size k):=by
 have h8:c_ way size k<8:=m_ _ (by decide);have hlen:=kY hb way turn size k;have e:(sL b way turn size k).cps.toList=jj b way turn size k:=by simp[sL]
 refine⟨?_,?_,?_⟩
 ·rw[cB,e];omega
 ·rw[cB,e];omega
 ·rw[e];intro c hc;unfold jj at hc;rcases bO.mp hc with hc|hc
  ·rcases bO.mp hc with hc|hc
   ·exact hl c (eS (eS hc))
   ·have:c=97+(turn+3 * k) % 26:=by simpa using hc
    subst this;have:(turn+3 * k) % 26<26:=m_ _ (by decide);exact⟨by omega,by omega⟩
  ·exact hl c (eS (List.mem_of_mem_drop hc))
theorem yo{b:List Nat}(hb:b.length=7){way turn size:Nat}(hw:way<3){j k:Nat}(hj:j<26)(hk:k<26)(h:sL b way turn size j=sL b way turn size k):j=k:=by
 have h8:∀i,c_ way size i<8:=fun i=>m_ _ (by decide);have e:jj b way turn size j=jj b way turn size k:=by
  have:=congrArg (fun s=>Str.cps s |>.toList) h;simpa[sL]using this
 have el:c_ way size j=c_ way size k:=by
  have:=congrArg List.length e;rw[kY hb,kY hb]at this;omega
 have key:97+(turn+3 * j) % 26=97+(turn+3 * k) % 26:=by
  have hat:∀i,uc way (c_ way size i)<=c_ way size i:=fun i=>by unfold uc;split;omega;split;omega;omega
  have get:∀i,(jj b way turn size i)[uc way (c_ way size i)]?=some (97+(turn+3 * i) % 26):=by
   intro i;unfold jj;have hl:((b.take (c_ way size i)).take (uc way (c_ way size i))).length=uc way (c_ way size i):=by
    rw[bf,bf,hb];have:=h8 i;have:=hat i;omega
   rw[ij,jy (by omega),hl,Nat.sub_self]
   rfl
  have g1:=get j;have g2:=get k;rw[e,el]at g1;rw[g1]at g2;exact c7 g2
 omega
def fh(ws:Zb):Prop:=ws.Nodup/\∀w∈ws,iK w
def gR(b:List Nat)(way turn size n:Nat):List Str:=(j1 n).map (sL b way turn size)
theorem uh{b:List Nat}(hb:b.length=7)(hl:∀c∈b,lA c){way turn size n:Nat}(hw:way<3)(hn:n<=26):fh (gR b way turn size n):=by
 refine⟨?_,fun w hm=>?_⟩
 ·unfold gR;rw[List.nodup_iff_pairwise_ne,List.pairwise_map];refine(List.nodup_range (n:=n)).imp_of_mem ?_;intro j k hj hk hne h;exact hne (yo hb hw (by have:=List.mem_range.mp hj;omega) (by have:=List.mem_range.mp hk;omega) h)
 ·obtain⟨k,_,rfl⟩:=aU.mp hm;exact Ag hb hl _ _ _ _
inductive j8 (vs:List V)(H:Hp)(Q:VK)(E:XK):Prop
 |mk (p c:Addr) (n:Nat):(vs=[.ref p,.int n])->(eZ H p c)->(n<=26)->(∀(l:Addr) (ws:Zb) (H':Hp),fh ws->ws.length=n->H l=none->H' l=some (.lst (ws.map V.str))->eZ H' p c->cH p H H'->Q (.ref l) H')->j8  vs H Q E
theorem yQ{K:Za}{vs:List V}{H:Hp}{Q:VK}{E:XK}(h:j8 vs H Q E):sR K fU (cf Q) (start t_ vs) H:=by
 obtain⟨p,c,n,rfl,hp,hn,k⟩:=h;refine⟨rfl,7,rfl,by decide,by decide,fun l hl=>?_⟩;refine oz (lo:=0) (n:=Int.toNat 7) (fun i vs H'=>∃cs:List Nat,vs=cs.map (fun c=>V.str ⟨#[c]⟩)/\cs.length=i/\(∀c∈cs,lA c)/\eZ H' p c/\cH p H H'/\H' l=some (.lst vs))
  ⟨[],rfl,rfl,(fun _ h=>nomatch h),hp.ex (ae.new hl),cH.new hl,aa⟩ (fun i vs H' _ ⟨_,_,_,_,_,_,h⟩=>h) ?_ ?_
 rotate_left
 ·rintro i vs H' hi ⟨cs,rfl,hlen,hlet,hp',hex,hl'⟩;have hlp:=hp.nep hl;have hlc:=hp.nec hl;refine gN (qH ?_);refine⟨_,rfl,_,rfl,eV hp' (by decide) (by decide) fun r H2 h0 h1 hp2 hex2=>⟨_,r,_,rfl,rfl,wP,zX h0 h1,?_⟩⟩;have hl2:=hex2 l _ hl' hlp.symm;refine⟨hl2,by rw[ap,hlen];exact bc (by omega),xG hi ⟨cs++[97+r.toNat],by rw[aM];rfl,by rw[bd,hlen];rfl,?_,hp2.upd hlp hlc,?_,aa⟩⟩
  ·intro x hc;rcases bO.mp hc with hc|hc
   ·exact hlet x hc
   ·have:x=97+r.toNat:=by simpa using hc
    subst this;exact⟨by omega,by omega⟩
  ·intro b o' e nb;rw[ai (ah e hl)];exact hex2 b o' (hex b o' e nb) nb
 ·rintro vs H1 ⟨cs,rfl,hlen,hlet,hp1,hex1,hl1⟩;refine⟨"",l,cs.map fun c=>(⟨#[c]⟩:Str),rfl,rfl,aA.of (by rw[hl1,cR];rfl),?_,?_⟩
  ·have e0:("":Str).length=0:=by decide +kernel
   rw[e0,Nat.mul_zero,cR];have:∀cs:List Nat,(cs.map ((fun x=>Str.length x) ∘ fun c=>(⟨#[c]⟩:Str))).sum=cs.length:=by
    intro cs
    induction cs with
    |nil=>rfl
    |cons c cs ih=>rw[aS,List.sum_cons,ih,c6];show 1+_=_;omega
   rw[this,hlen];decide
  refine⟨_,rfl,eV hp1 (by decide) (by decide) fun way H2 w0 w1 hp2 hex2=>?_⟩;refine⟨_,rfl,eV hp2 (by decide) (by decide) fun turn H3 t0 t1 hp3 hex3=>?_⟩;refine⟨_,rfl,eV hp3 (by decide) (by decide) fun size H4 s0 s1 hp4 hex4=>?_⟩;have ex4:cH p H H4:=((hex1.trans hex2).trans hex3).trans hex4;obtain⟨wy,rfl⟩:=jq w0;obtain⟨tn,rfl⟩:=jq t0;obtain⟨sz,rfl⟩:=jq s0;have hb:=u9 cs;generalize jr "" (cs.map fun c=>(⟨#[c]⟩:Str))=base at hb ⊢;refine⟨(by show 0<=aj;decide),fun f hf=>?_⟩;obtain⟨op,hop⟩:=hp4.pen;have hfH:H f=none:=ex4.free hop hf;have hfp:=hp.nep hfH;have hfc:=hp.nec hfH;refine⟨_,rfl,n,rfl,by omega,by omega,lE (lo:=0) (n:=((n:Int)).toNat) (fun i σ H'=>∃(a b c' d:Option V),σ=[some (.ref p),some (.int n),some (.str "abcdefghijklmnopqrstuvwxyz"),some (.str base),some (.int wy),some (.int tn),some (.int sz),some (.ref f),a,b,c',d] /\
   eZ H' p c/\cH p H H'/\H' f=some (.lst ((gR cs wy tn sz i).map V.str)))
   ⟨_,_,_,_,rfl,hp4.upd hfp hfc,ex4.trans (cH.new hf),aa⟩ ?_ ?_⟩
  ·rintro i σ H' hi ⟨a,b,c',d,rfl,hp',hex',hf'⟩;have hi':i<n:=by omega
   have hwy:wy<3:=by omega
   have e26:((tn:Int)+3 * (0+(i:Int))) % 26=(((tn+3 * i) % 26:Nat):Int):=by omega
   refine⟨_,rfl,_,rfl,_,rfl,_,_,rfl,rfl,.inl ⟨by decide,by decide⟩,_,_,rfl,rfl,_,_,rfl,rfl,(by show(0:Int)<26;decide),_,_,_,rfl,rfl,wP,zX (kL _ (by decide)) (kK _ (by decide)),?_⟩;have blen:base.length<=aj:=by rw[cB,hb,hlen];decide
   have e8:((sz:Int)+(0+(i:Int)) * ((wy:Int) % 2)) % 8=((c_ wy sz i:Nat):Int):=by
    unfold c_;have:wy=0∨wy=1∨wy=2:=by omega
    rcases this with rfl|rfl|rfl<;>simp<;>omega
   refine⟨_,rfl,_,rfl,_,rfl,_,rfl,_,_,rfl,rfl,(by show(0:Int)<2;decide),_,_,rfl,rfl,.inr ⟨by omega,by omega⟩,_,_,rfl,rfl,_,_,rfl,rfl,(by show(0:Int)<8;decide),_,rfl,base,rfl,blen,?_⟩;rw[e8];have hpart:=zO base (c_ wy sz i);rw[hb]at hpart;generalize oy base none (some ((c_ wy sz i:Nat):Int))=part at hpart ⊢;have h8:c_ wy sz i<8:=m_ _ (by decide);have plen:part.length=c_ wy sz i:=by rw[cB,hpart,bf,hlen];omega
   have pz:part.length<=aj:=by rw[plen];exact fR (bc (by omega))
   refine⟨_,rfl,.inr ⟨part,rfl,pz,_,rfl,.inr ⟨part,rfl,pz,_,_,rfl,rfl,⟨by decide,by decide⟩,(by show 3<=aj;decide),fun q hq=>?_⟩⟩⟩;have hqH:H q=none:=by
    obtain⟨op',hop'⟩:=hp'.pen;exact hex'.free hop' hq
   have hat:ud [V.int 0,V.int (part.length:Nat),V.int ((part.length:Int) / 2)] (wy:Int)=some (.int (uc wy (c_ wy sz i):Nat)):=by
    rw[plen];have:wy=0∨wy=1∨wy=2:=by omega
    rcases this with rfl|rfl|rfl
    ·rfl
    ·rfl
    ·show some (V.int (((c_ 2 sz i:Nat):Int) / 2))=some (V.int ((uc 2 (c_ 2 sz i):Nat):Int));have:uc 2 (c_ 2 sz i)=c_ 2 sz i / 2:=rfl;rw[this];congr 2
   refine⟨_,rfl,q,_,_,_,rfl,rfl,aA.of aa,hat,?_⟩;have hf2:upd H' q (.lst [V.int 0,V.int (part.length:Nat),V.int ((part.length:Int) / 2)]) f=some (.lst ((gR cs wy tn sz i).map V.str)):=kp hf' hq;have c1:=zO part (uc wy (c_ wy sz i));have c2:=zQ part (uc wy (c_ wy sz i));have l1:(oy part none (some ((uc wy (c_ wy sz i):Nat):Int))).length<=8:=by rw[cB,c1,bf,hpart,bf,hlen];omega
   have l2:(oy part (some ((uc wy (c_ wy sz i):Nat):Int)) none).length<=8:=by rw[cB,c2,eU,hpart,bf,hlen];omega
   refine⟨_,rfl,.inl ⟨rfl,_,aA.of hf2⟩,_,rfl,_,rfl,_,rfl,part,rfl,pz,_,rfl,_,_,rfl,rfl,?_,_,rfl,_,rfl,_,rfl,part,rfl,pz,_,_,rfl,rfl,?_,f,_,_,rfl,rfl,hf2,?_,?_⟩
   ·have:Str.length ⟨#[97+(((tn:Int)+3 * (0+(i:Int))) % 26).toNat]⟩=1:=rfl;rw[this];exact fR (bc (by omega))
   ·rw[cB,cZ,bd,<-cB,<-cB];have:Str.length ⟨#[97+(((tn:Int)+3 * (0+(i:Int))) % 26).toNat]⟩=1:=rfl;rw[this];exact fR (bc (by omega))
   ·rw[ap];unfold gR;rw[ap,List.length_range];exact bc (by omega)
   ·refine⟨_,_,_,_,rfl,(hp'.upd (hp.nep hqH) (hp.nec hqH)).upd hfp hfc,?_,?_⟩
    ·intro b' o' e nb;rw[ai (ah e hfH)];exact kp (hex' b' o' e nb) hq
    ·rw[aa];unfold gR;rw[List.range_succ,aM,aM];congr 3;show[V.str _]=[V.str _];congr 2;refine j7 ?_;rw[cZ,cZ,c1,c2,hpart,e26,kW];simp[sL,jj]
  ·rintro σ H' ⟨a,b,c',d,rfl,hp',hex',hf'⟩;have en:((n:Int)).toNat=n:=by omega
   rw[en]at hf';exact⟨_,rfl,k f _ H' (uh hlen hlet (by omega) hn) (by unfold gR;rw[ap,List.length_range]) hfH hf' hp' hex'⟩
structure ar where
 a:Str
 sg:List Str
 b:Str
deriving DecidableEq
def SignAt(H:Hp)(s:Addr)(sg:Zb):Prop:=H s=some (.tup (sg.map V.str))
def eo(H:Hp)(t:Addr)(d:ar):Prop:=∃s,H t=some (.tup [.str d.a,.ref s,.str d.b])/\SignAt H s d.sg
def vx(H H':Hp):Prop:=∀b xs,H b=some (.tup xs)->H' b=some (.tup xs)
theorem eo.kt{H H':Hp}{t:Addr}{d:ar}(k:vx H H')(h:eo H t d):eo H' t d:=by
 obtain⟨s,h1,h2⟩:=h;exact⟨s,k _ _ h1,k _ _ h2⟩
theorem cH.kt{p:Addr}{H H':Hp}{xs:List V}(e:cH p H H')(hp:H p=some (.lst xs)):vx H H':=fun b ys h=>e b _ h (fun z=>by rw[z,hp]at h;cases h)
theorem ae.kt{H H':Hp}(e:ae H H'):vx H H':=fun b ys h=>e b _ h
theorem vx.trans{H H1 H2:Hp}(a:vx H H1)(b:vx H1 H2):vx H H2:=fun x xs h=>b x xs (a x xs h)
theorem jJ{H:Hp}{l:Addr}{xs:List V}{o:HO}(h:H l=some (.lst xs)):vx H (upd H l o):=fun b ys e=>by
 rw[ai (fun z=>by rw[z,h]at e;cases e)];exact e
abbrev cP(H:Hp)(ts:Ze)(ds:List ar):Prop:=Paired (eo H) ts ds
theorem Paired.get{α β:Type}{R:α->β->Prop}:∀{xs:List α}{ys:List β}{i:Nat}{y:β},Paired R xs ys->ys[i]?=some y->∃x,xs[i]?=some x/\R x y
 |_,_,i,y,.nil,h=>by simp at h
 |_,_,0,y,.cons r t,h=>by simp at h;subst h;exact⟨_,rfl,r⟩
 |_,_,i+1,y,.cons r t,h=>by
  simp at h;obtain⟨x,h1,h2⟩:=Paired.get t h;exact⟨x,by simpa using h1,h2⟩
theorem Paired.getL{α β:Type}{R:α->β->Prop}:∀{xs:List α}{ys:List β}{i:Nat}{x:α},Paired R xs ys->xs[i]?=some x->∃y,ys[i]?=some y/\R x y
 |_,_,i,y,.nil,h=>by simp at h
 |_,_,0,y,.cons r t,h=>by simp at h;subst h;exact⟨_,rfl,r⟩
 |_,_,i+1,y,.cons r t,h=>by
  simp at h;obtain⟨x,h1,h2⟩:=Paired.getL t h;exact⟨x,by simpa using h1,h2⟩
theorem cP.kt{H H':Hp}{ts:Ze}{ds:List ar}(k:vx H H')(h:cP H ts ds):cP H' ts ds:=Paired.mapP h fun _ _ r=>r.kt k
theorem BP{H:Hp}{a:Addr}{o:HO}(h:H a=some o):upd H a o=H:=by
 funext b;by_cases e:b=a
 ·subst e;rw[aa,h]
 ·rw[ai e]
def aP(x:Str):DT:=.k (.inr x)
def g_(d:ar):DT:=.t [aP d.a,.t (d.sg.map aP),aP d.b]
theorem rc{x y:Str}(h:aP x=aP y):x=y:=by
 unfold aP at h;injection h with h;injection h
theorem f8:∀{x y:Zb},x.map aP=y.map aP->x=y
 |[],[],_=>rfl
 |[],_::_,h=>by cases h
 |_::_,[],h=>by cases h
 |a::x,b::y,h=>by
  rw[aS,aS]at h;injection h with h1 h2;rw[rc h1,f8 h2]
theorem A8{x y:ar}(h:g_ x=g_ y):x=y:=by
 unfold g_ at h;injection h with h;injection h with h1 h;injection h with h2 h;injection h with h3 h;injection h2 with h2;cases x;cases y;simp only at *;rw[rc h1,f8 h2,rc h3]
theorem eO(xs:Zb):DT.depths (xs.map aP)=0:=by
 induction xs with
 |nil=>rfl
 |cons x xs ih=>rw[aS];show max (DT.depth (aP x)) (DT.depths _)=0;rw[ih];rfl
theorem rV(d:ar):(g_ d).depth=2:=by
 show DT.depths [aP d.a,.t (d.sg.map aP),aP d.b]+1=2;show max (DT.depth (aP d.a)) (max (DT.depths (d.sg.map aP)+1) (max (DT.depth (aP d.b)) 0))+1=2;rw[eO]
 rfl
theorem xT(ds:List ar):DT.depths (ds.map g_)<=8:=by
 induction ds with
 |nil=>exact cy _
 |cons x xs ih=>rw[aS];show max (DT.depth (g_ x)) (DT.depths _)<=8;rw[rV];omega
theorem ou{K:Za}{H:Hp}:∀xs:List Str,DIns K H (xs.map aP) (xs.map V.str)
 |[]=>by show DIns K H [] [];unfold DIns;rfl
 |x::xs=>by
  rw[aS,aS];unfold DIns;refine⟨_,_,rfl,?_,ou xs⟩;unfold aP iO
  rfl
theorem wK{K:Za}{H:Hp}(x:Str):iO K H (aP x) (.str x):=by unfold aP iO;rfl
theorem ox{K:Za}{H:Hp}{s:Addr}{sg:Zb}(h:bN K H s (sg.map V.str)):iO K H (.t (sg.map aP)) (.ref s):=by
 unfold iO;exact⟨s,_,rfl,h,ou _⟩
theorem eo.dIn{K:Za}{H:Hp}{t:Addr}{d:ar}(h:eo H t d):iO K H (g_ d) (.ref t):=by
 obtain⟨s,h1,h2⟩:=h;unfold g_;unfold iO;refine⟨t,_,rfl,bN.of h1,?_⟩;unfold DIns;refine⟨_,_,rfl,wK _,?_⟩;unfold DIns;refine⟨_,_,rfl,ox (bN.of h2),?_⟩;unfold DIns;refine⟨_,_,rfl,wK _,?_⟩;unfold DIns
 rfl
theorem cP.dIns{K:Za}{H:Hp}:∀{ts:Ze}{ds:List ar},cP H ts ds->DIns K H (ds.map g_) (ts.map V.ref)
 |_,_,.nil=>by show DIns K H [] [];unfold DIns;rfl
 |_,_,.cons r t=>by
  rw[aS,aS];unfold DIns;exact⟨_,_,rfl,r.dIn,cP.dIns t⟩
theorem wn{d:ar}{ds:List ar}:g_ d∈ds.map g_↔d∈ds:=by
 constructor
 ·intro h;obtain⟨x,hx,e⟩:=aU.mp h;rw[<-A8 e];exact hx
 ·exact List.mem_map_of_mem
def uR(ds:List ar)(d:ar):List ar:=if d∈ds then ds else ds++[d]
inductive nR (vs:List V)(H:Hp)(Q:VK)(E:XK):Prop
 |mk (l t:Addr) (ts:Ze) (ds:List ar) (d:ar):(vs=[.ref l,.ref t])->(H l=some (.lst (ts.map V.ref)))->(cP H ts ds)->(eo H t d)->(ds.length<=1000)->(∀ts':List Addr,cP H ts' (uR ds d)->Q .non (upd H l (.lst (ts'.map V.ref))))->nR  vs H Q E
theorem BZ{K:Za}{vs:List V}{H:Hp}{Q:VK}{E:XK}(h:nR vs H Q E):xi K (cf Q) (start x9 vs) H:=by
 obtain⟨l,t,ts,ds,d,rfl,hl,hd,ht,hz,k⟩:=h;refine⟨_,rfl,_,rfl,g_ d,ds.map g_,l,_,ht.dIn,rfl,.inl (aA.of hl),hd.dIns,by rw[rV];decide,xT ds,_,rfl,?_⟩;by_cases hm:d∈ds
 ·rw[if_pos rfl,zzr1 (wn.mpr hm)];refine bE ?_;have:=k ts (by unfold uR;rw[if_pos hm];exact hd);rw[BP hl]at this;exact this
 ·rw[if_pos rfl,zzr0 (fun z=>hm (wn.mp z))];refine cQ ?_;refine⟨_,rfl,.inl ⟨rfl,_,aA.of hl⟩,_,rfl,l,_,_,rfl,rfl,hl,?_,?_⟩
  ·rw[ap,Paired.length hd];exact bc hz
  ·have:=k (ts++[t]) (by unfold uR;rw[if_neg hm];exact qC hd ht);rw[aM]at this;exact this
structure DI(R:ar->Prop)(H0:Hp)(p c l:Addr)(m:Nat)(H:Hp):Prop where
 pen:eZ H p c
 ds:∃ts ds,H l=some (.lst (ts.map V.ref))/\cP H ts ds/\ds.Nodup/\(∀d∈ds,R d)/\ds.length<=m
 ex:cH p H0 H
 fr:H0 l=none
 pl:p≠l
 cl:c≠l
section
variable{R:ar->Prop}{H0 H H':Hp}{p c l:Addr}{m:Nat}
theorem eZ.lst{H:Hp}{p c:Addr}(h:eZ H p c):∃xs,H p=some (.lst xs):=by
 obtain⟨a,r,ns,h1,_⟩:=h;exact⟨_,h1⟩
theorem DI.took(h:DI R H0 p c l m H)(hp:eZ H' p c)(e:cH p H H'):DI R H0 p c l m H':=by
 obtain⟨ts,ds,h1,h2,h3⟩:=h.ds;obtain⟨xs,hx⟩:=h.pen.lst;exact⟨hp,⟨ts,ds,e _ _ h1 h.pl.symm,h2.kt (e.kt hx),h3⟩,h.ex.trans e,h.fr,h.pl,h.cl⟩
theorem DI.new(h:DI R H0 p c l m H){q:Addr}{o:HO}(hq:H q=none):DI R H0 p c l m (upd H q o) :=
 h.took (h.pen.ex (ae.new hq)) (cH.new hq)
theorem DI.up(h:DI R H0 p c l m H){n:Nat}(hn:m<=n):DI R H0 p c l n H:=by
 obtain⟨ts,ds,h1,h2,h3,h4,h5⟩:=h.ds;exact⟨h.pen,⟨ts,ds,h1,h2,h3,h4,bF h5 hn⟩,h.ex,h.fr,h.pl,h.cl⟩
theorem DI.put(h:DI R H0 p c l m H){t:Addr}{d:ar}{Q:VK}{E:XK}(ht:eo H t d)(hR:R d)(hm:m<=1000)(k:∀H',DI R H0 p c l (m+1) H'->Q .non H'):nR [.ref l,.ref t] H Q E:=by
 obtain⟨ts,ds,h1,h2,h3,h4,h5⟩:=h.ds;refine⟨l,t,ts,ds,d,rfl,h1,h2,ht,bF h5 hm,fun ts' h'=>k _ ⟨h.pen.upd h.pl h.cl,⟨ts',uR ds d,aa,h'.kt (jJ h1),?_,?_,?_⟩,?_,h.fr,h.pl,h.cl⟩⟩
 ·unfold uR;split
  ·exact h3
  ·next hn =>
   rw[ef];refine⟨h3,by simp,?_⟩;intro a ha b hb e;have:b=d:=by simpa using hb
   subst this;exact hn (e▸ha)
 ·intro x hx;unfold uR at hx;split at hx
  ·exact h4 x hx
  ·rcases bO.mp hx with hx|hx
   ·exact h4 x hx
   ·have:x=d:=by simpa using hx
    rw[this];exact hR
 ·unfold uR;split
  ·omega
  ·rw[bd];show ds.length+1<=m+1;omega
 ·intro b o e n;rw[ai (ah e h.fr)];exact h.ex b o e n
end
theorem eZ.ne_strs{H:Hp}{p c a:Addr}{ws:Zb}(hp:eZ H p c)(ha:H a=some (.lst (ws.map V.str))):a≠p:=by
 intro e;obtain⟨x,y,ns,h1,_⟩:=hp;rw[e,h1]at ha;injection ha with ha;injection ha with ha;cases ws with
 |nil=>cases ha
 |cons w ws=>injection ha with ha;cases ha
theorem mN{K:Za}{r:R2}(hr:∀x y H Q,cX K x y H Q->r x y H Q){σ:L2.St}{H:Hp}{Q:VK}{p c a:Addr}{j:Nat}{ws:Zb}(h0:σ[0]?=some (some (.ref p)))(hj:σ[j]?=some (some (.ref a)))(hp:eZ H p c)
  (ha:H a=some (.lst (ws.map V.str))) (hne:ws≠[]) (hlen:ws.length<=1000) (k:∀w∈ws,∀H',eZ H' p c->cH p H H'->Q (.str w) H') :
  ∃v,σ[j]?=some (some v)/\∃v0,σ[0]?=some (some v0)/\∃v1,σ[j]?=some (some v1)/\dX K [v1] H fun y H1=>fU [v0,y] H1 (fun y H2=>r v y H2 Q) E0:=by
 have hl:0<ws.length:=by cases ws with|nil=>exact absurd rfl hne|cons _ _=>simp
 have la:(V.int ((ws.map V.str).length:Nat))=V.int (ws.length:Nat):=by rw[ap]
 have hpa:=hp.ne_strs ha;have fin:∀(x:Int) (H':Hp),0<=x->x<(ws.length:Int)->eZ H' p c->cH p H H'->cX K (.ref a) (.int x) H' Q:=by
  intro x H' x0 x1 hp' ex;obtain⟨n,rfl⟩:=jq x0;have hn:n<ws.length:=by omega
  exact⟨a,_,(n:Int),.str ws[n],rfl,rfl,aA.of (ex _ _ ha hpa),eE (by simp[hn]),k _ (List.getElem_mem hn) H' hp' ex⟩
 exact⟨_,hj,_,h0,_,hj,.inl ⟨a,_,rfl,.inl (aA.of ha),by rw[la];exact eV hp (by omega) (by omega) fun x H' x0 x1 hp' ex=>hr _ _ _ _ (fin x H' x0 x1 hp' ex)⟩⟩
def Up(up:Bool)(J2:Zb)(a b:Str):Prop:=∃i j:Nat,J2[i]?=some a/\J2[j]?=some b/\(if up=true then i<j else j<i)
structure iM(J0 J1 J2:Zb)(up:Bool)(d:ar):Prop where
 a:d.a∈J2
 b:d.b∈J2
 sg:(∃w∈J0,d.sg=[("ask":Str),w])∨(∃w∈J1,d.sg=[("say":Str),w])∨(d.sg=[("still":Str)]/\Up up J2 d.a d.b)
def a_:List Str:=[("still":Str)]
structure z7(J0 J1 J2:Zb)(d:ar):Prop where
 a:d.a∈J2
 b:d.b∈J2
 sg:(∃w∈J0,d.sg=[("ask":Str),w])∨(∃w∈J1,d.sg=[("say":Str),w])∨d.sg=a_
theorem iM.d{J0 J1 J2:Zb}{up:Bool}{d:ar}(h:iM J0 J1 J2 up d):z7 J0 J1 J2 d:=⟨h.a,h.b,h.sg.imp id (Or.imp id And.left)⟩
inductive Reach(ds:List ar)(a:Str):Str->Prop
 |one {b:Str}(h:(⟨a,a_,b⟩:ar)∈ds):Reach ds a b
 |step {b c:Str}(r:Reach ds a b) (h:(⟨b,a_,c⟩:ar)∈ds):Reach ds a c
theorem wx{J2:Zb}(nd:J2.Nodup){i j:Nat}{a:Str}(hi:J2[i]?=some a)(hj:J2[j]?=some a):i=j:=by
 obtain⟨h1,e1⟩:=db.mp hi;obtain⟨h2,e2⟩:=db.mp hj;have pw:=List.pairwise_iff_getElem.mp nd;rcases Nat.lt_trichotomy i j with h|h|h
 ·exact absurd (e1.trans e2.symm) (pw i j h1 h2 h)
 ·exact h
 ·exact absurd (e2.trans e1.symm) (pw j i h2 h1 h)
theorem Up.trans{up:Bool}{J2:Zb}(nd:J2.Nodup){a b c:Str}(h1:Up up J2 a b)(h2:Up up J2 b c):Up up J2 a c:=by
 obtain⟨i,j,e1,e2,h⟩:=h1;obtain⟨j',k,e3,e4,h'⟩:=h2;have:=wx nd e2 e3;subst this;refine⟨i,k,e1,e4,?_⟩;cases up
 ·simp at h h' ⊢;omega
 ·simp at h h' ⊢;omega
theorem Up.irr{up:Bool}{J2:Zb}(nd:J2.Nodup){a:Str}(h:Up up J2 a a):False:=by
 obtain⟨i,j,e1,e2,h⟩:=h;have:=wx nd e1 e2;subst this;cases up
 ·simp at h
 ·simp at h
theorem yr{J0 J1 J2:Zb}{ds:List ar}{up:Bool}(nd:J2.Nodup)(m:∀d∈ds,iM J0 J1 J2 up d){a b:Str}(h:Reach ds a b):Up up J2 a b:=by
 have edge:∀{a b:Str},(⟨a,a_,b⟩:ar)∈ds->Up up J2 a b:=by
  intro a b h;rcases(m _ h).sg with⟨w,_,e⟩|⟨w,_,e⟩|⟨_,e⟩
  ·cases e
  ·cases e
  ·exact e
 induction h with
 |one h=>exact edge h
 |step r h ih=>exact ih.trans nd (edge h)
inductive eD (vs:List V)(H:Hp)(Q:VK)(E:XK):Prop
 |mk (p c l1 l2 l3:Addr) (J0 J1 J2:Zb) (full:Int):(vs=[.ref p,.ref l1,.ref l2,.ref l3,.int full])->(eZ H p c)->(H l1=some (.lst (J0.map V.str)))->(H l2=some (.lst (J1.map V.str)))->(H l3=some (.lst (J2.map V.str)))->(J0.length<=4)->(J1≠[])->(J1.length<=4)->(J2≠[])->(J2.length<=26)->(0<=full)->(full<=2)->(∀(l:Addr) (ts:Ze) (ds:List ar) (up:Bool) (H':Hp),H l=none->H' l=some (.lst (ts.map V.ref))->cP H' ts ds->ds.Nodup->(∀d∈ds,iM J0 J1 J2 up d)->ds.length<=600->eZ H' p c->cH p H H'->Q (.ref l) H')->eD  vs H Q E
theorem at4{x r:Int}(x0:0<=x)(x2:x<=2)(r0:0<=r)(r4:r<4):∃j:Int,ud [V.int x,.int 1,.int 1,.int 2] r=some (.int j)/\0<=j/\j<=2:=by
 have:r=0∨r=1∨r=2∨r=3:=by omega
 rcases this with rfl|rfl|rfl|rfl
 ·exact⟨x,rfl,x0,x2⟩
 ·exact⟨1,rfl,by decide,by decide⟩
 ·exact⟨1,rfl,by decide,by decide⟩
 ·exact⟨2,rfl,by decide,by decide⟩
theorem p4(ws:Zb)(k:Nat):dD (ws.map V.str) (some (k:Int)) none=(ws.drop k).map V.str:=by
 unfold dD;rw[HT.sIx_none,HT.sIx_nat,ap,qe (by rw[eU,ap];omega),List.map_drop];by_cases h:k<=ws.length
 ·rw[Nat.min_eq_left h]
 ·rw[Nat.min_eq_right (by omega),kM (by simp),kM (by rw[ap];omega)]
theorem wL(ws:Zb)(k:Nat):dD (ws.map V.str) none (some (k:Int))=(ws.take k).map V.str:=by
 unfold dD;rw[HT.sIx_none,HT.sIx_nat,ap,kO,qi,List.map_take,List.take_eq_take_iff,ap];omega
theorem zN{K:Za}{H:Hp}{a:Addr}{ws:Zb}(h:aA K H a (ws.map V.str)):iO K H (.s (ws.map aP)) (.ref a):=by
 unfold iO;exact⟨a,_,rfl,h,ou _⟩
theorem A7{K:Za}{H:Hp}{a:Addr}(h:aA K H a []):iO K H (.s []) (.ref a):=by
 unfold iO;refine⟨a,_,rfl,h,?_⟩;unfold DIns
 rfl
theorem o7{K:Za}{vs:List V}{H:Hp}{Q:VK}{E:XK}(h:eD vs H Q E):k6 K fU nR (cf Q) (start lJ vs) H:=by
 obtain⟨p,c,l1,l2,l3,J0,J1,J2,full,rfl,hp,h1,h2,h3,ha,hs0,hs,hr0,hr,f0,f2,k⟩:=h;have n1:=hp.ne_strs h1;have n2:=hp.ne_strs h2;have n3:=hp.ne_strs h3;refine⟨(by show 0<=aj;decide),fun l hl=>?_⟩;have hpl:=hp.nep hl;have hcl:=hp.nec hl;refine⟨_,rfl,eV (hp.ex (ae.new hl)) (by decide) (by decide) fun dn H1 d0 d1 hp1 ex1=>?_⟩;generalize hG:iM J0 J1 J2 (decide (dn=0))=G;have base:DI G H p c l 0 H1:=⟨hp1,⟨[],[],ex1 _ _ aa hpl.symm,.nil,ir,by simp,cy _⟩,(cH.new hl).trans ex1,hl,hpl,hcl⟩;refine⟨_,rfl,l3,rfl,⟨_,aA.of (base.ex _ _ h3 n3)⟩,?_⟩;refine gH (xs:=J2.map V.str) (fun i σ H'=>∃a7 a8 a9 a10 a11 a12:Option V,σ=[some (.ref p),some (.ref l1),some (.ref l2),some (.ref l3),some (.int full),some (.ref l),some (.int dn),a7,a8,a9,a10,a11,a12]/\DI G H p c l (11 * i) H')
  ⟨_,_,_,_,_,_,rfl,base⟩ (fun i σ H' _ ⟨_,_,_,_,_,_,_,D⟩=>aA.of (D.ex _ _ h3 n3)) ?_ ?_
 ·rintro i x σ H' t hi ⟨a7,a8,a9,a10,a11,a12,rfl,D⟩ ht;obtain⟨room,hroom,rfl⟩:∃room,J2[i]?=some room/\x=V.str room:=by
   rw[cA]at hi;cases q:J2[i]? with
   |none=>rw[q]at hi;cases hi
   |some r=>rw[q]at hi;exact⟨r,rfl,(c7 hi).symm⟩
  have hiL:i<J2.length:=(db.mp hroom).1;have hmem:room∈J2:=bU hroom;refine⟨t,_,rfl,bN.of aa,rfl,_,_,rfl,_,_,rfl,rfl,?_⟩;have D1:=D.new ht (o:=.tup [.int i,.str room]);refine⟨(by show 4<=aj;decide),fun q hq=>⟨_,rfl,eV (D1.new hq).pen (by decide) (by decide) fun r H2 r0 r1 hp2 ex2=>?_⟩⟩;obtain⟨j,hj,j0,j2⟩:=at4 (x:=0) (by decide) (by decide) r0 r1;have D2:=(D1.new hq).took hp2 ex2;refine⟨q,_,_,_,rfl,rfl,aA.of (ex2 q _ aa (D1.pen.nep hq).symm),hj,j,rfl,by omega,by omega,?_⟩;refine lE (lo:=0) (n:=j.toNat) (fun i' σ H''=>∃a9 a10:Option V,σ=[some (.ref p),some (.ref l1),some (.ref l2),some (.ref l3),some (.int full),some (.ref l),some (.int dn),some (.int i),some (.str room),a9,a10,a11,a12]/\DI G H p c l (11 * i+i') H'')
   ⟨_,_,rfl,D2⟩ ?_ ?_
  ·rintro i' σ H3 hi' ⟨a9,a10,rfl,D3⟩;refine mN (fun _ _ _ _ h=>h) rfl rfl D3.pen (D3.ex _ _ h2 n2) hs0 (by omega) fun w hw H4 hp4 ex4=>?_;have D4:=D3.took hp4 ex4;refine⟨(by show 2<=aj;decide),fun sg hsg=>?_⟩;have D5:=D4.new hsg (o:=.tup [.str "say",.str w]);refine⟨_,rfl,_,rfl,_,rfl,mN (fun _ _ _ _ h=>h) rfl rfl D5.pen (D5.ex _ _ h3 n3) hr0 (by omega) fun w2 hw2 H6 hp6 ex6=>?_⟩;have D6:=D5.took hp6 ex6;refine⟨(by show 3<=aj;decide),fun dr hdr=>?_⟩;have D7:=D6.new hdr (o:=.tup [.str room,.ref sg,.str w2]);have hsg6:H6 sg=some (.tup [.str "say",.str w]):=ex6 _ _ aa (D4.pen.nep hsg).symm;refine D7.put (d:=⟨room,["say",w],w2⟩) ⟨sg,aa,kp hsg6 hdr⟩ ?_ (by omega) fun H8 D8=>⟨_,_,rfl,D8⟩;rw[<-hG];exact⟨hmem,hw2,.inr (.inl ⟨w,hw,rfl⟩)⟩
  rintro σ H3 ⟨a9,a10,rfl,D3'⟩;have D3:DI G H p c l (11 * i+2) H3:=D3'.up (by omega);clear D3';refine⟨_,rfl,l1,rfl,⟨_,aA.of (D3.ex _ _ h1 n1)⟩,?_⟩;refine fH (xs:=J0.map V.str) (fun i' σ H''=>∃a9 a11:Option V,σ=[some (.ref p),some (.ref l1),some (.ref l2),some (.ref l3),some (.int full),some (.ref l),some (.int dn),some (.int i),some (.str room),a9,a10,a11,a12]/\DI G H p c l (11 * i+2+2 * i') H'')
   ⟨_,_,rfl,D3⟩ (fun i σ H' _ ⟨_,_,_,D⟩=>aA.of (D.ex _ _ h1 n1)) ?_ ?_
  ·rintro i' x σ H4 hi' ⟨a9,a11,rfl,D4⟩;obtain⟨ask,hask,rfl⟩:∃ask,J0[i']?=some ask/\x=V.str ask:=by
    rw[cA]at hi';cases q:J0[i']? with
    |none=>rw[q]at hi';cases hi'
    |some r=>rw[q]at hi';exact⟨r,rfl,(c7 hi').symm⟩
   have hi2:i'<J0.length:=(db.mp hask).1;have hm2:ask∈J0:=bU hask;refine⟨_,rfl,(by show 4<=aj;decide),fun q hq=>⟨_,rfl,eV (D4.new hq).pen (by decide) (by decide) fun r H5 r0 r1 hp5 ex5=>?_⟩⟩;obtain⟨j,hj,j0,j2⟩:=at4 f0 f2 r0 r1;have D5:=(D4.new hq).took hp5 ex5;refine⟨q,_,_,_,rfl,rfl,aA.of (ex5 q _ aa (D4.pen.nep hq).symm),hj,j,rfl,by omega,by omega,?_⟩;refine lE (lo:=0) (n:=j.toNat) (fun i'' σ H''=>∃a9:Option V,σ=[some (.ref p),some (.ref l1),some (.ref l2),some (.ref l3),some (.int full),some (.ref l),some (.int dn),some (.int i),some (.str room),a9,a10,some (.str ask),a12]/\DI G H p c l (11 * i+2+2 * i'+i'') H'')
    ⟨_,rfl,D5⟩ ?_ ?_
   ·rintro i'' σ H6 hi'' ⟨a9,rfl,D6⟩;refine⟨_,rfl,_,rfl,_,rfl,(by show 2<=aj;decide),fun sg hsg=>?_⟩;have D7:=D6.new hsg (o:=.tup [.str "ask",.str ask]);refine mN (fun _ _ _ _ h=>h) rfl rfl D7.pen (D7.ex _ _ h3 n3) hr0 (by omega) fun w2 hw2 H8 hp8 ex8=>?_;have D8:=D7.took hp8 ex8;refine⟨(by show 3<=aj;decide),fun dr hdr=>?_⟩;have D9:=D8.new hdr (o:=.tup [.str room,.ref sg,.str w2]);have hsg8:H8 sg=some (.tup [.str "ask",.str ask]):=ex8 _ _ aa (D6.pen.nep hsg).symm;refine D9.put (d:=⟨room,["ask",ask],w2⟩) ⟨sg,aa,kp hsg8 hdr⟩ ?_ (by omega) fun H8 D8=>⟨_,rfl,D8⟩;rw[<-hG];exact⟨hmem,hw2,.inl ⟨ask,hm2,rfl⟩⟩
   ·rintro σ H6 ⟨a9,rfl,D6⟩;exact⟨_,_,rfl,D6.up (by omega)⟩
  rintro σ H4 ⟨a9,a11,rfl,D4'⟩;have D4:DI G H p c l (11 * i+10) H4:=D4'.up (by rw[ap];omega);clear D4';have hnext:∀(H9:Hp) (a12:Option V),DI G H p c l (11 * i+11) H9->∃a7 a8 a9' a10' a11' a12':Option V,[some (.ref p),some (.ref l1),some (.ref l2),some (.ref l3),some (.int full),some (.ref l),some (.int dn),some (.int i),some (.str room),a9,a10,a11,a12] =
    [some (.ref p),some (.ref l1),some (.ref l2),some (.ref l3),some (.int full),some (.ref l),some (.int dn),a7,a8,a9',a10',a11',a12']/\DI G H p c l (11 * (i+1)) H9:=fun H9 a12 D9=>⟨_,_,_,_,_,_,rfl,D9.up (by omega)⟩
  refine⟨_,rfl,_,rfl,_,_,rfl,rfl,_,rfl,l3,_,rfl,aA.of (D4.ex _ _ h3 n3),fun q1 hq1=>?_⟩;have D5:=D4.new hq1 (o:=.lst (dD (J2.map V.str) (some ((i:Int)+1)) none));refine⟨_,rfl,_,rfl,_,rfl,l3,_,rfl,aA.of (D5.ex _ _ h3 n3),fun q2 hq2=>?_⟩;have e1:dD (J2.map V.str) (some ((i:Int)+1)) none=(J2.drop (i+1)).map V.str:=p4 J2 (i+1);rw[wL];have D6:=D5.new hq2 (o:=.lst ((J2.take i).map V.str));refine⟨(by show 2<=aj;decide),fun q3 hq3=>?_⟩;have D7:=D6.new hq3 (o:=.lst [.ref q1,.ref q2]);obtain⟨lt,q,hq,hlt,hgood⟩:∃(lt:Zb) (q:Addr),ud [V.ref q1,.ref q2] dn=some (.ref q) /\
    upd (upd (upd H4 q1 (.lst (dD (J2.map V.str) (some ((i:Int)+1)) none))) q2 (.lst ((J2.take i).map V.str))) q3 (.lst [.ref q1,.ref q2]) q=some (.lst (lt.map V.str))/\lt.length<=26 /\
    ∀w∈lt,w∈J2/\Up (decide (dn=0)) J2 room w:=by
   have:dn=0∨dn=1:=by omega
   rcases this with rfl|rfl
   ·refine⟨J2.drop (i+1),q1,rfl,?_,by rw[eU];omega,fun w hw=>⟨List.mem_of_mem_drop hw,?_⟩⟩
    ·refine(kp (kp aa hq2) hq3).trans ?_;rw[e1]
    ·obtain⟨n,hn⟩:=List.getElem?_of_mem hw;rw[List.getElem?_drop]at hn;exact⟨i,i+1+n,hroom,hn,by rw[if_pos (by decide)];omega⟩
   ·refine⟨J2.take i,q2,rfl,?_,by rw[bf];omega,fun w hw=>⟨eS hw,?_⟩⟩
    ·exact kp aa hq3
    ·obtain⟨n,hn⟩:=List.getElem?_of_mem hw;have hnl:n<i:=by
      have:=(db.mp hn).1;rw[bf]at this;omega
     rw[List.getElem?_take_of_lt hnl]at hn;exact⟨i,n,hroom,hn,by rw[if_neg (by decide)];omega⟩
  refine⟨_,rfl,q3,_,_,_,rfl,rfl,aA.of aa,hq,?_⟩;generalize upd (upd (upd H4 q1 (.lst (dD (J2.map V.str) (some ((i:Int)+1)) none))) q2 (.lst ((J2.take i).map V.str))) q3 (.lst [.ref q1,.ref q2])=H7 at D7 hlt ⊢;refine⟨_,rfl,(by show 0<=aj;decide),fun e he=>⟨.s (lt.map aP),.s [],zN (aA.of (kp hlt he)),A7 (aA.of aa),?_,by decide,_,rfl,?_⟩⟩
  ·show DT.depths (lt.map aP)+1<=8;rw[eO];decide
  have D8:=D7.new he (o:=.lst []);by_cases hz:lt=[]
  ·have ez:(!decide (DT.s (lt.map aP)=DT.s []))=false:=by rw[hz,zzr1 (by rfl)];rfl
   rw[ez];exact bE (bE (hnext _ _ (D8.up (by omega))))
  ·have ez:(!decide (DT.s (lt.map aP)=DT.s []))=true:=by
    rw[zzr0 (fun z=>hz (f8 (y:=[]) (by injection z)))];rfl
   rw[ez];refine cQ ?_;refine⟨_,rfl,eV D8.pen (by decide) (by decide) fun r H9 r0 r1 hp9 ex9=>⟨rfl,_,rfl,?_⟩⟩;have D9:=D8.took hp9 ex9;refine pb (fun _=>?_) (fun _=>hnext _ _ (D9.up (by omega)));refine⟨_,rfl,_,rfl,(by show 1<=aj;decide),fun sg hsg=>?_⟩;have D10:=D9.new hsg (o:=.tup [.str "still"]);have hlt10:upd H9 sg (.tup [.str "still"]) q=some (.lst (lt.map V.str)):=kp (ex9 _ _ (kp hlt he) (D8.pen.ne_strs (kp hlt he))) hsg;refine mN (fun _ _ _ _ h=>.inl h) rfl rfl D10.pen hlt10 hz (by omega) fun w2 hw2 H11 hp11 ex11=>?_;have D11:=D10.took hp11 ex11;refine⟨(by show 3<=aj;decide),fun dr hdr=>?_⟩;have D12:=D11.new hdr (o:=.tup [.str room,.ref sg,.str w2]);have hsg11:H11 sg=some (.tup [.str "still"]):=ex11 _ _ aa (D9.pen.nep hsg).symm;refine D12.put (d:=⟨room,[("still":Str)],w2⟩) ⟨sg,aa,kp hsg11 hdr⟩ ?_ (by omega) fun H13 D13=>hnext _ _ D13;rw[<-hG];exact⟨hmem,(hgood.2 w2 hw2).1,.inr (.inr ⟨rfl,(hgood.2 w2 hw2).2⟩)⟩
 ·rintro σ H' ⟨a7,a8,a9,a10,a11,a12,rfl,D⟩;obtain⟨ts,ds,g1,g2,g3,g4,g5⟩:=D.ds;rw[ap]at g5;rw[<-hG]at g4;exact⟨_,rfl,k l ts ds _ H' hl g1 g2 g3 g4 (by omega) D.pen D.ex⟩
structure aI(J0 J1 J2:Zb)(ds:List ar):Prop where
 okA:fh J0
 okS:fh J1
 apart:∀w∈J1,w∉J0
 okR:fh J2
 asks0:J0≠[]
 says0:J1≠[]
 rooms0:J2≠[]
 asks4:J0.length<=4
 says4:J1.length<=4
 rooms26:J2.length<=150
 nodup:ds.Nodup
 good:∀d∈ds,z7 J0 J1 J2 d
 few:ds.length<=1000
 noround:∀r,¬Reach ds r r
structure oI(H:Hp)(t l1 l2 l3 l4:Addr)(ts:Ze)(J0 J1 J2:Zb)(ds:List ar):Prop where
 t:H t=some (.tup [.ref l1,.ref l2,.ref l3,.ref l4])
 a1:H l1=some (.lst (J0.map V.str))
 a2:H l2=some (.lst (J1.map V.str))
 a3:H l3=some (.lst (J2.map V.str))
 a4:H l4=some (.lst (ts.map V.ref))
 ds:cP H ts ds
theorem eZ.ne_refs{H:Hp}{p c a:Addr}{ts:Ze}(hp:eZ H p c)(ha:H a=some (.lst (ts.map V.ref))):a≠p:=by
 intro e;obtain⟨x,y,ns,h1,_⟩:=hp;rw[e,h1]at ha;injection ha with ha;injection ha with ha;cases ts with
 |nil=>cases ha
 |cons w ws =>
  injection ha with _ ha;cases ws with
  |nil=>cases ha
  |cons w ws=>injection ha with ha;cases ha
theorem oI.ex{H H':Hp}{p c t l1 l2 l3 l4:Addr}{ts:Ze}{J0 J1 J2:Zb}{ds:List ar}(h:oI H t l1 l2 l3 l4 ts J0 J1 J2 ds)(hp:eZ H p c)(e:cH p H H'):oI H' t l1 l2 l3 l4 ts J0 J1 J2 ds:=by
 obtain⟨xs,hx⟩:=hp.lst;exact⟨e.kt hx _ _ h.t,e _ _ h.a1 (hp.ne_strs h.a1),e _ _ h.a2 (hp.ne_strs h.a2),e _ _ h.a3 (hp.ne_strs h.a3),e _ _ h.a4 (hp.ne_refs h.a4),h.ds.kt (e.kt hx)⟩
theorem oI.same{H H':Hp}{t l1 l2 l3 l4:Addr}{ts:Ze}{J0 J1 J2:Zb}{ds:List ar}(h:oI H t l1 l2 l3 l4 ts J0 J1 J2 ds)(e:ae H H'):oI H' t l1 l2 l3 l4 ts J0 J1 J2 ds :=
 ⟨e _ _ h.t,e _ _ h.a1,e _ _ h.a2,e _ _ h.a3,e _ _ h.a4,h.ds.kt (ae.kt e)⟩
theorem at6{r:Int}(r0:0<=r)(r6:r<6):∃n:Nat,ud [V.int 0,.int 1,.int 1,.int 2,.int 2,.int 3] r=some (.int n)/\n<=3:=by
 have:r=0∨r=1∨r=2∨r=3∨r=4∨r=5:=by omega
 rcases this with rfl|rfl|rfl|rfl|rfl|rfl
 ·exact⟨0,rfl,by decide⟩
 ·exact⟨1,rfl,by decide⟩
 ·exact⟨1,rfl,by decide⟩
 ·exact⟨2,rfl,by decide⟩
 ·exact⟨2,rfl,by decide⟩
 ·exact⟨3,rfl,by decide⟩
theorem zS{ws:Zb}(hw:ws.length=8){n:Nat}(hn:n<=3):dD (ws.map V.str) (some 4) (some (5+(n:Int)))=((ws.drop 4).take (1+n)).map V.str:=by
 unfold dD;have s1:HT.sIx (ws.map V.str).length 0 (some 4)=min 4 (ws.map V.str).length:=HT.sIx_nat _ _ 4;have s2:HT.sIx (ws.map V.str).length (ws.map V.str).length (some (5+(n:Int)))=min (5+n) (ws.map V.str).length:=HT.sIx_nat _ _ (5+n);rw[s1,s2,ap,hw,List.map_take,List.map_drop];have e1:min 4 8=4:=by decide
 have e2:min (5+n) 8-4=1+n:=by omega
 rw[e1,e2]
theorem dF{ws:Zb}{i:Nat}{x:V}(h:(ws.map V.str)[i]?=some x):∃w,ws[i]?=some w/\x=.str w:=by
 rw[cA]at h;cases q:ws[i]? with
 |none=>rw[q]at h;cases h
 |some r=>rw[q]at h;exact⟨r,rfl,(c7 h).symm⟩
theorem take_snoc{α:Type}{ws:List α}{i:Nat}{w:α}(h:ws[i]?=some w):ws.take (i+1)=ws.take i++[w]:=by
 obtain⟨hi,rfl⟩:=db.mp h;rw[List.take_succ_eq_append_getElem hi]
def kj(w:Str):Bool:=!decide (w=("":Str)) && (decide (w.length<=8) && w.cps.toList.all fun c=>decide (c∈("abcdefghijklmnopqrstuvwxyz":Str).cps.toList))
theorem iK.b{w:Str}(h:iK w):kj w=true:=by
 unfold kj;have h1:¬(w=("":Str)):=fun e=>by
  have:=h.lo;rw[e]at this;exact absurd this (by decide +kernel)
 rw[zzr0 h1,zzr1 h.hi,Bool.not_false,m9,m9,List.all_eq_true];intro c hc;obtain⟨c1,c2⟩:=h.al c hc;refine zzr1 ?_;have:=wQ (c-97) (by omega);have e:97+(c-97)=c:=by omega
 rw[e]at this;exact bU this
inductive sp_is_name (vs:List V)(H:Hp)(Q:VK)(E:XK):Prop
 |mk (w:Str):(vs=[.str w])->(w.length<=1000)->(∀H',ae H H'->Q (.bl (kj w)) H')->sp_is_name  vs H Q E
theorem uN{K:Za}{vs:List V}{H:Hp}{Q:VK}{E:XK}(h:sp_is_name vs H Q E):xj K (cf Q) (start x_ vs) H:=by
 obtain⟨w,rfl,hz,k⟩:=h;refine⟨_,rfl,rfl,_,rfl,?_⟩;have ed:(!decide (V.str w=V.str ("":Str)))=!decide (w=("":Str)):=by
  congr 1;by_cases e:w=("":Str)
  ·rw[zzr1 e,zzr1 (by rw[e])]
  ·rw[zzr0 e,zzr0 (fun z=>e (by injection z))]
 rw[ed];refine pb (fun h1=>?_) (fun h1=>?_)
 ·refine⟨_,rfl,.inr ⟨w,rfl,fR (bc hz),_,_,rfl,rfl,_,rfl,?_⟩⟩;refine pb (fun h2=>?_) (fun h2=>?_)
  ·refine⟨_,rfl,w,rfl,fun l hl=>?_⟩;refine zT (fun i vs H'=>vs=((w.cps.toList.take i).map fun c=>V.bl (decide (c∈("abcdefghijklmnopqrstuvwxyz":Str).cps.toList)))/\ae H H'/\H' l=some (.lst vs))
    ⟨rfl,ae.new hl,aa⟩ (fun i vs H' _ h=>h.2.2) ?_ ?_
   ·rintro vs H' ⟨rfl,hS,hl'⟩;refine⟨l,w.cps.toList.map fun c=>decide (c∈("abcdefghijklmnopqrstuvwxyz":Str).cps.toList),rfl,aA.of ?_,?_⟩
    ·rw[hl',cR];have:w.cps.toList.take w.cps.size=w.cps.toList:=by
      rw[qe];simp
     rw[this]
     rfl
    ·have:=k H' hS;have h2':decide (w.length<=8)=true:=zzr1 (by have:=of_decide_eq_true h2;omega);unfold kj at this;rw[h1,h2',m9,m9]at this;rw[kN];exact this
   ·rintro i vs H' c hc hi ⟨rfl,hS,hl'⟩;refine gN (qH ?_);refine⟨_,rfl,c,_,rfl,rfl,hl',?_,xG hi ⟨?_,?_,aa⟩⟩
    ·rw[ap,bf];have:w.length=w.cps.toList.length:=cB w;exact bc (by omega)
    ·rw[take_snoc (by rw[<-hc];simp),aM]
     rfl
    ·intro b o e;rw[ai (ah e hl)];exact hS b o e
  ·have:=k H (ae.refl H);have h2':decide (w.length<=8)=false:=zzr0 (fun z=>h2 (zzr1 (by omega)));unfold kj at this;rw[h1,h2',m9,Bool.false_and]at this;exact this
 ·have:=k H (ae.refl H);unfold kj at this;rw[Bool.eq_false_iff.mpr h1,Bool.false_and]at this;exact this
def be(ws:Zb):List (cG×V):=ws.foldl (fun acc w=>eK acc (.inr w) (.bl true)) []
theorem eN(ws:Zb)(w:Str):be (ws++[w])=eK (be ws) (.inr w) (.bl true):=by
 unfold be;rw[m8]
 rfl
theorem tu{κ:Type}[DecidableEq κ](kvs:List (κ×V))(k:κ)(v:V):(eK kvs k v).length<=kvs.length+1:=by
 unfold eK;split
 ·rw[ap];omega
 ·rw[bd];exact aD _
theorem ix{α:Type}(P:List α->Prop)(h0:P [])(hs:∀ws w,P ws->P (ws++[w]))(ws:List α):P ws:=by
 have:∀n (ws:List α),ws.length=n->P ws:=by
  intro n
  induction n with
  |zero=>intro ws h;rw[List.length_eq_zero_iff.mp h];exact h0
  |succ n ih =>
   intro ws h;have hne:ws≠[]:=fun z=>by rw[z]at h;cases h
   rw[<-List.dropLast_concat_getLast hne];exact hs _ _ (ih _ (by rw[List.length_dropLast,h];rfl))
 exact this _ ws rfl
theorem jK(ws:Zb):(be ws).length<=ws.length:=by
 refine ix (fun ws=>(be ws).length<=ws.length) (aD _) (fun ws w h=>?_) ws;show(be (ws++[w])).length<=(ws++[w]).length;rw[eN,bd];have:=tu (be ws) (.inr w) (.bl true);show _<=ws.length+1;omega
theorem u7(ws:Zb)(x:Str):cI (be ws) (.inr x)=if x∈ws then some (.bl true)else none:=by
 refine ix (fun ws=>cI (be ws) (.inr x)=if x∈ws then some (.bl true)else none) rfl (fun ws w h=>?_) ws
 show cI (be (ws++[w])) (.inr x)=_;rw[eN,sM,h];by_cases e:x=w
 ·subst e;rw[if_pos rfl,if_pos (by simp)]
 ·have e1:¬((Sum.inr x:cG)=.inr w):=fun z=>e (by injection z);rw[if_neg e1];by_cases m:x∈ws
  ·rw[if_pos m,if_pos (fx _ m)]
  ·rw[if_neg m,if_neg (fun z=>by rcases bO.mp z with z|z;exact m z;exact e (by simpa using z))]
theorem gF(ws:Zb)(x:Str):(cI (be ws) (.inr x)).isSome=decide (x∈ws):=by
 rw[u7];by_cases m:x∈ws
 ·rw[if_pos m,zzr1 m];rfl
 ·rw[if_neg m,zzr0 m];rfl
inductive sp_as_keys(K:Za)(vs:List V)(H:Hp)(Q:VK)(E:XK):Prop
 |mk (l:Addr) (ws:Zb):(vs=[.ref l])->(aA K H l (ws.map V.str))->(ws.length<=1000)->(∀d,H d=none->Q (.ref d) (upd H d (.dK (be ws))))->sp_as_keys K vs H Q E
theorem uO{K:Za}{vs:List V}{H:Hp}{Q:VK}{E:XK}(h:sp_as_keys K vs H Q E):xu K (cf Q) (start ye vs) H:=by
 obtain⟨l,ws,rfl,hl,hz,k⟩:=h;refine fun d hd=>?_;have key:∀kvs,aA K (upd H d (.dK kvs)) l (ws.map V.str):=fun kvs=>(ae.new hd).seq hl;refine⟨_,rfl,l,rfl,⟨_,key _⟩,?_⟩;refine fH (xs:=ws.map V.str) (fun i σ H'=>∃x,σ=[some (.ref l),some (.ref d),x]/\H'=upd H d (.dK (be (ws.take i)))) ⟨_,rfl,rfl⟩ (fun i σ H' _ ⟨_,_,e⟩=>by rw[e];exact key _) ?_ ?_
 ·rintro i x σ H' hi ⟨y,rfl,rfl⟩;obtain⟨w,hw,rfl⟩:=dF hi;have hlen:(be (ws.take i)).length<aj:=bc (bF (jK _) (by rw[bf];omega));refine⟨_,rfl,_,rfl,d,_,rfl,.inl ⟨_,.inr w,aa,rfl,hlen,rfl⟩,_,rfl,?_⟩;rw[mI,take_snoc hw,eN]
 ·rintro σ H' ⟨x,rfl,rfl⟩;rw[ap,c9];exact⟨_,rfl,k d hd⟩
def zB(most:Nat):Nat->List Str->List Str->Option Nat
 |_,_,[]=>none
 |i,ahead,n::ns=>if i=most∨n∈ahead∨kj n=false then some i else zB most (i+1) (ahead++[n]) ns
def bR(names:Zb)(most:Nat)(taken:Zb):Option Nat:=if names=[]then some 0 else zB most 0 taken names
def oV:Option Nat->V
 |none=>.non
 |some i=>.int i
inductive sp_first_wrong_name(K:Za)(vs:List V)(H:Hp)(Q:VK)(E:XK):Prop
 |mk (l t:Addr) (names taken:Zb) (most:Nat):(vs=[.ref l,.int most,.ref t])->(aA K H l (names.map V.str))->(aA K H t (taken.map V.str))->(names.length+taken.length<=1000)->((∀w∈names,w.length<=1000))->(∀H',ae H H'->Q (oV (bR names most taken)) H')->sp_first_wrong_name K vs H Q E
theorem lH{K:Za}{H:Hp}{Q:VK}{E:XK}{l:Addr}{ws:Zb}(hl:aA K H l (ws.map V.str))(hz:ws.length<=1000)(k:∀d,H d=none->Q (.ref d) (upd H d (.dK (be ws)))):sp_as_keys K [.ref l] H Q E:=by
 exact⟨l,ws,rfl,hl,hz,k⟩
theorem xN{H:Hp}{Q:VK}{E:XK}{w:Str}(hz:w.length<=1000)(k:∀H',ae H H'->Q (.bl (kj w)) H'):sp_is_name [.str w] H Q E:=by
 exact⟨w,rfl,hz,k⟩
theorem jd{K:Za}{vs:List V}{H:Hp}{Q:VK}{E:XK}(h:sp_first_wrong_name K vs H Q E):jA K sp_is_name (sp_as_keys K) (cf Q) (start jR vs) H:=by
 obtain⟨l,t,names,taken,most,rfl,hl,ht,hz,hw,k⟩:=h;refine⟨_,rfl,.inl ⟨l,_,rfl,.inl hl,rfl,_,rfl,?_⟩⟩;by_cases h0:names=[]
 ·subst h0;refine cQ ?_;have:=k H (ae.refl H);exact this
 have e0:decide (V.int ((names.map V.str).length:Nat)=V.int 0)=false:=zzr0 (fun z=>h0 (by
  injection z with z;rw[ap]at z;exact List.length_eq_zero_iff.mp (by omega)))
 rw[e0];refine bE ?_;have hk:∀H',ae H H'->Q (oV (zB most 0 taken names)) H':=by
  unfold bR at k;rw[if_neg h0]at k;exact k
 refine⟨_,rfl,lH ht (by omega) fun d hd=>?_⟩;refine⟨_,rfl,l,rfl,⟨_,(ae.new hd).seq hl⟩,?_⟩;refine gH (xs:=names.map V.str) (fun i σ H'=>∃x y,σ=[some (.ref l),some (.int most),some (.ref t),some (.ref d),x,y]/\ae H H'/\H' d=some (.dK (be (taken++names.take i)))/\zB most i (taken++names.take i) (names.drop i)=zB most 0 taken names)
  ⟨_,_,rfl,ae.new hd,by rw[List.take_zero,i9];exact aa,by rw[List.take_zero,i9,kO]⟩ (fun i σ H' _ ⟨_,_,_,hS,_⟩=>hS.seq hl) ?_ ?_
 ·rintro i x σ H' q hi ⟨x4,x5,rfl,hS,hd',hf⟩ hq;obtain⟨w,hw',rfl⟩:=dF hi;have hil:i<names.length:=(db.mp hw').1;have ed:names.drop i=w::names.drop (i+1):=by
   rw[List.drop_eq_getElem_cons hil];congr 1;exact(db.mp hw').2
  rw[ed]at hf;have hd2:upd H' q (.tup [.int i,.str w]) d=some (.dK (be (taken++names.take i))):=kp hd' hq;have hS2:ae H (upd H' q (.tup [.int i,.str w])):=hS.trans (ae.new hq);have hww:w.length<=1000:=hw w (bU hw');refine⟨q,_,rfl,bN.of aa,rfl,_,_,rfl,_,_,rfl,rfl,?_⟩;generalize upd H' q (.tup [.int i,.str w])=H2 at hd2 hS2 ⊢;refine⟨_,rfl,_,rfl,rfl,_,rfl,?_⟩;by_cases c1:i=most
  ·have e1:decide (V.int (i:Nat)=V.int (most:Nat))=true:=zzr1 (by rw[c1]);rw[e1];refine cQ (cQ ?_);refine⟨_,rfl,?_⟩;have:=hk H2 hS2;rw[<-hf]at this;unfold zB at this;rw[if_pos (.inl c1)]at this;exact this
  have e1:decide (V.int (i:Nat)=V.int (most:Nat))=false:=zzr0 (fun z=>c1 (by injection z with z;omega));rw[e1];refine bE ?_;refine⟨_,rfl,_,rfl,d,_,rfl,.inl ⟨_,.inr w,.inl hd2,rfl,rfl⟩,_,rfl,?_⟩;rw[gF];by_cases c2:w∈taken++names.take i
  ·rw[zzr1 c2];refine cQ (cQ ?_);refine⟨_,rfl,?_⟩;have:=hk H2 hS2;rw[<-hf]at this;unfold zB at this;rw[if_pos (.inr (.inl c2))]at this;exact this
  rw[zzr0 c2];refine bE ?_;refine⟨_,rfl,xN hww fun H3 hS3=>⟨_,rfl,?_⟩⟩;have hd3:=hS3 _ _ hd2;cases c3:kj w with
  |false =>
   refine cQ ?_;refine⟨_,rfl,?_⟩;have:=hk H3 (hS2.trans hS3);rw[<-hf]at this;unfold zB at this;rw[if_pos (.inr (.inr c3))]at this;exact this
  |true =>
   refine bE ?_;have hlen:(be (taken++names.take i)).length<aj:=bc (bF (jK _) (by rw[bd,bf];omega));refine⟨_,rfl,_,rfl,d,_,rfl,.inl ⟨_,.inr w,hd3,rfl,hlen,rfl⟩,_,_,rfl,?_,?_,?_⟩
   ·intro b o e;rw[ai (ah e hd)];exact hS3 _ _ (hS2 _ _ e)
   ·rw[aa,take_snoc hw',<-ij,eN]
   ·rw[<-hf,take_snoc hw',<-ij]
    conv=>rhs;unfold zB
    rw[if_neg];rintro(z|z|z)
    ·exact c1 z
    ·exact c2 z
    ·rw[c3]at z;cases z
 ·rintro σ H' ⟨x,y,rfl,hS,_,hf⟩;rw[ap,List.drop_length]at hf;have:=hk H' hS;rw[<-hf]at this;exact this
theorem tP{most:Nat}:∀(ns ahead:Zb) (i:Nat),i+ns.length<=most->(ahead++ns).Nodup->(∀w∈ns,iK w)->zB most i ahead ns=none
 |[],_,_,_,_,_=>rfl
 |n::ns,ahead,i,h1,h2,h3=>by
  rw[c6]at h1;unfold zB;rw[if_neg]
  ·refine tP ns (ahead++[n]) (i+1) (by omega) (by rw[ij];exact h2) fun w hw=>h3 w (cg _ hw)
  ·rintro(z|z|z)
   ·omega
   ·rw[ef]at h2;exact h2.2.2 n z n (bY) rfl
   ·rw[(h3 n bY).b]at z;cases z
theorem eX{most:Nat}{ns taken:Zb}(h0:ns≠[])(h1:ns.length<=most)(h2:(taken++ns).Nodup)(h3:∀w∈ns,iK w):bR ns most taken=none:=by
 unfold bR;rw[if_neg h0];exact tP ns taken 0 (by omega) h2 h3
theorem bX{n:Nat}(h:n<=9000):n<aj:=qz h (by decide)
def oS(x:Str):TK:=.k (.inr x)
def zA(sg:Zb):TK:=.t (sg.map oS)
def wJ(d:ar):TK:=.t [oS d.a,zA d.sg,oS d.b]
theorem mM{x y:Str}(h:oS x=oS y):x=y:=by
 unfold oS at h;injection h with h;injection h
theorem ma:∀{x y:Zb},x.map oS=y.map oS->x=y
 |[],[],_=>rfl
 |[],_::_,h=>by cases h
 |_::_,[],h=>by cases h
 |a::x,b::y,h=>by
  rw[aS,aS]at h;injection h with h1 h2;rw[mM h1,ma h2]
theorem wz{x y:Zb}(h:zA x=zA y):x=y:=by
 unfold zA at h;injection h with h;exact ma h
theorem A6{x y:ar}(h:wJ x=wJ y):x=y:=by
 unfold wJ at h;injection h with h;injection h with h1 h;injection h with h2 h;injection h with h3 h;cases x;cases y;simp only at *;rw[mM h1,wz h2,mM h3]
theorem ul(xs:Zb):TK.depths (xs.map oS)=0:=by
 induction xs with
 |nil=>rfl
 |cons x xs ih=>rw[aS];show max (TK.depth (oS x)) (TK.depths _)=0;rw[ih];rfl
theorem pE(sg:Zb):(zA sg).depth=1:=by
 show TK.depths (sg.map oS)+1=1;rw[ul]
theorem pF(d:ar):(wJ d).depth=2:=by
 show max (TK.depth (oS d.a)) (max (TK.depth (zA d.sg)) (max (TK.depth (oS d.b)) 0))+1=2;rw[pE]
 rfl
theorem vW{H:Hp}:∀xs:List Str,TKAts H (xs.map oS) (xs.map V.str)
 |[]=>by show TKAts H [] [];unfold TKAts;rfl
 |x::xs=>by
  rw[aS,aS];unfold TKAts;refine⟨_,_,rfl,?_,vW xs⟩;unfold oS fJ
  rfl
theorem um{H:Hp}(x:Str):fJ H (oS x) (.str x):=by unfold oS fJ;rfl
theorem SignAt.tk{H:Hp}{s:Addr}{sg:Zb}(h:SignAt H s sg):fJ H (zA sg) (.ref s):=by
 unfold zA fJ;exact⟨s,_,rfl,h,vW _⟩
theorem eo.tk{H:Hp}{t:Addr}{d:ar}(h:eo H t d):fJ H (wJ d) (.ref t):=by
 obtain⟨s,h1,h2⟩:=h;unfold wJ fJ;refine⟨t,_,rfl,h1,?_⟩;unfold TKAts;refine⟨_,_,rfl,um _,?_⟩;unfold TKAts;refine⟨_,_,rfl,SignAt.tk h2,?_⟩;unfold TKAts;refine⟨_,_,rfl,um _,?_⟩;unfold TKAts
 rfl
section
variable{κ:Type}[DecidableEq κ]
def ia(ks:List κ):List (κ×V):=ks.foldl (fun acc k=>eK acc k (.bl true)) []
theorem jL(ws:List κ)(w:κ):ia (ws++[w])=eK (ia ws) w (.bl true):=by
 unfold ia;rw[m8]
 rfl
theorem xJ(ws:List κ):(ia ws).length<=ws.length:=by
 refine ix (fun ws=>(ia ws).length<=ws.length) (aD _) (fun ws w h=>?_) ws;show(ia (ws++[w])).length<=(ws++[w]).length;rw[jL,bd];have:=tu (ia ws) w (.bl true);show _<=ws.length+1;omega
theorem zm(ws:List κ)(x:κ):(cI (ia ws) x).isSome=decide (x∈ws):=by
 refine ix (fun ws=>(cI (ia ws) x).isSome=decide (x∈ws)) rfl (fun ws w h=>?_) ws;show(cI (ia (ws++[w])) x).isSome=_;rw[jL,sM];by_cases e:x=w
 ·subst e;rw[if_pos rfl,zzr1 (by simp)]
  rfl
 ·rw[if_neg e,h];by_cases m:x∈ws
  ·rw[zzr1 m,zzr1 (fx _ m)]
  ·rw[zzr0 m,zzr0 (fun z=>by rcases bO.mp z with z|z;exact m z;exact e (by simpa using z))]
end
theorem wm{d:ar}{ds:List ar}:wJ d∈ds.map wJ↔d∈ds:=by
 constructor
 ·intro h;obtain⟨x,hx,e⟩:=aU.mp h;rw[<-A6 e];exact hx
 ·exact List.mem_map_of_mem
def jQ(K:Za)(H:Hp)(v:V)(sg:Zb):Prop:=∃s,v=.ref s/\bN K H s (sg.map V.str)
theorem ae.sqT{K:Za}{H H':Hp}{a:Addr}{xs:List V}(e:ae H H')(h:bN K H a xs):bN K H' a xs:=by
 rcases h with(h|⟨o,h⟩)|h
 ·exact .inl (.inl (e _ _ h))
 ·exact .inl (.inr ⟨o,e _ _ h⟩)
 ·exact .inr h
theorem Signs.same{K:Za}{H H':Hp}(e:ae H H'){xs:List V}{sgs:List (List Str)}(h:Paired (jQ K H) xs sgs):Paired (jQ K H') xs sgs :=
 Paired.mapP h fun _ _ ⟨s,h1,h2⟩=>⟨s,h1,ae.sqT e h2⟩
def xQ(sg:Zb):DT:=.t (sg.map aP)
theorem AT{x y:Zb}(h:xQ x=xQ y):x=y:=by
 unfold xQ at h;injection h with h;exact f8 h
theorem wE(sg:Zb):(xQ sg).depth=1:=by
 show DT.depths (sg.map aP)+1=1;rw[eO]
theorem xS(sgs:List (List Str)):DT.depths (sgs.map xQ)<=8:=by
 induction sgs with
 |nil=>exact cy _
 |cons x xs ih=>rw[aS];show max (DT.depth (xQ x)) (DT.depths _)<=8;rw[wE];omega
theorem Signs.dIns{K:Za}{H:Hp}:∀{xs:List V}{sgs:List (List Str)},Paired (jQ K H) xs sgs->DIns K H (sgs.map xQ) xs
 |_,_,.nil=>by show DIns K H [] [];unfold DIns;rfl
 |_,_,.cons ⟨s,e,r⟩ t=>by
  rw[aS];unfold DIns;refine⟨_,_,rfl,?_,Signs.dIns t⟩;rw[e];exact ox r
theorem wj{d:Zb}{ds:List (List Str)}:xQ d∈ds.map xQ↔d∈ds:=by
 constructor
 ·intro h;obtain⟨x,hx,e⟩:=aU.mp h;rw[<-AT e];exact hx
 ·exact List.mem_map_of_mem
theorem Paired.app{α β:Type}{R:α->β->Prop}:∀{a:List α}{b:List β}{c:List α}{d:List β},Paired R a b->Paired R c d->Paired R (a++c) (b++d)
 |_,_,_,_,.nil,h=>h
 |_,_,_,_,.cons r t,h=>.cons r (Paired.app t h)
def Dr(w:Str):List Str:=[("ask":Str),w]
def C3(w:Str):List Str:=[("say":Str),w]
def gJ(J0 J1:Zb):List (List Str):=J0.map Dr++J1.map C3++[a_]
theorem nS{K:Za}{kw:Str}{σ:L2.St}{H:Hp}{a l:Addr}{ws:Zb}{Q:Hp->Prop}(ha:H a=some (.lst (ws.map V.str)))(hl:H l=none)(hz:ws.length<=1000)
  (k:∀(xs:List V) (H':Hp),Paired (jQ K H') xs (ws.map fun w=>[kw,w])->ae H H'->H' l=some (.lst xs)->Q H') :
  iP 1 [] σ (BH K a) U0 gS (fz (br (tC (.str kw)) V0)) H l Q:=by
 refine em (xs:=ws.map V.str) (fun i vs H'=>Paired (jQ K H') vs ((ws.take i).map fun w=>[kw,w])/\ae H H'/\H' l=some (.lst vs))
  ⟨.nil,ae.new hl,aa⟩ (fun i vs H' _ ⟨_,hS,h'⟩=>⟨h',aA.of (hS _ _ ha)⟩) ?_ ?_
 ·rintro vs H' ⟨h1,h2,h3⟩;rw[ap,c9]at h1;exact k vs H' h1 h2 h3
 ·rintro i vs H' x hx hi ⟨h1,h2,h3⟩;obtain⟨w,hw,rfl⟩:=dF hx;refine gN (qH ?_);refine⟨_,rfl,(by show 2<=aj;decide),fun t ht=>⟨kp h3 ht,?_,xG hi ⟨?_,?_,aa⟩⟩⟩
  ·rw[Paired.length h1,ap,bf];exact bc (by omega)
  ·rw[take_snoc hw,aM];have hS2:vx (upd H' t (.tup [.str kw,.str w])) (upd (upd H' t (.tup [.str kw,.str w])) l (.lst (vs++[.ref t]))):=jJ (kp h3 ht);have hS3:vx H' (upd (upd H' t (.tup [.str kw,.str w])) l (.lst (vs++[.ref t]))):=(ae.kt (ae.new ht)).trans hS2;refine Paired.app (Paired.mapP h1 fun v sg ⟨s,e1,e2⟩=>⟨s,e1,?_⟩) (.cons ⟨t,rfl,bN.of (hS2 _ _ aa)⟩ .nil);rcases e2 with(e2|⟨o,e2⟩)|e2
   ·exact .inl (.inl (hS3 _ _ e2))
   ·refine .inl (.inr ⟨o,?_⟩);rw[ai (fun z=>by rw[z,h3]at e2;cases e2)];exact kp e2 ht
   ·exact .inr e2
  ·intro b o e;rw[ai (ah e hl)];exact kp (h2 _ _ e) ht
inductive sp_door_signs(K:Za)(vs:List V)(H:Hp)(Q:VK)(E:XK):Prop
 |mk (l1 l2:Addr) (J0 J1:Zb):(vs=[.ref l1,.ref l2])->(H l1=some (.lst (J0.map V.str)))->(H l2=some (.lst (J1.map V.str)))->(J0.length<=100)->(J1.length<=100)->(∀(l:Addr) (xs:List V) (H':Hp),Paired (jQ K H') xs (gJ J0 J1)->ae H H'->H' l=some (.lst xs)->Q (.ref l) H')->sp_door_signs K vs H Q E
theorem o8{K:Za}{st:Addr}(hst:∀H,bN K H st (a_.map V.str)){vs:List V}{H:Hp}{Q:VK}{E:XK}(h:sp_door_signs K vs H Q E):qM K st (cf Q) (start sj vs) H:=by
 obtain⟨l1,l2,J0,J1,rfl,h1,h2,z1,z2,k⟩:=h;refine⟨_,rfl,l1,rfl,⟨_,aA.of h1⟩,fun a ha=>?_⟩;refine nS h1 ha (by omega) fun xs1 H1 p1 s1 g1=>?_;refine⟨_,rfl,l2,rfl,⟨_,aA.of (s1 _ _ h2)⟩,fun b hb=>?_⟩;refine nS (s1 _ _ h2) hb (by omega) fun xs2 H2 p2 s2 g2=>?_;have len1:xs1.length<=100:=by rw[Paired.length p1,ap];exact z1
 have len2:xs2.length<=100:=by rw[Paired.length p2,ap];exact z2
 refine⟨a,b,xs1,xs2,rfl,rfl,s2 _ _ g1,g2,fR (bc (by omega)),fun c hc=>?_⟩;refine⟨(by show 1<=aj;decide),fun d hd=>?_⟩;refine⟨c,d,_,_,rfl,rfl,kp aa hd,aa,?_,fun e he=>k e _ _ ?_ ?_ aa⟩
 ·rw[bd];show _+1<=aj;exact fR (bc (by omega))
 ·have sx:ae H2 (upd (upd (upd H2 c (.lst (xs1++xs2))) d (.lst [.ref st])) e (.lst (xs1++xs2++[.ref st]))):=((ae.new hc).trans (ae.new hd)).trans (ae.new he);exact Paired.app (Paired.app (Signs.same (s2.trans sx) p1) (Signs.same sx p2)) (.cons ⟨st,rfl,hst _⟩ .nil)
 ·exact(((s1.trans s2).trans (ae.new hc)).trans (ae.new hd)).trans (ae.new he)
def AU(J2:Zb)(sgs:List (List Str)):Nat->List ar->List ar->Option Nat
 |_,_,[]=>none
 |i,ahead,d::ds=>if i=2000∨d∈ahead∨d.a∉J2∨d.sg∉sgs∨d.b∉J2 then some i else AU J2 sgs (i+1) (ahead++[d]) ds
inductive sp_first_wrong_door(K:Za)(vs:List V)(H:Hp)(Q:VK)(E:XK):Prop
 |mk (l l3 sl:Addr) (ts:Ze) (ds:List ar) (J2:Zb) (xs:List V) (sgs:List (List Str)):(vs=[.ref l,.ref l3,.ref sl])->(H l=some (.lst (ts.map V.ref)))->(cP H ts ds)->(H l3=some (.lst (J2.map V.str)))->(J2.length<=1000)->(H sl=some (.lst xs))->(Paired (jQ K H) xs sgs)->(ds.length<=9000)->(∀H',ae H H'->Q (oV (AU J2 sgs 0 [] ds)) H')->sp_first_wrong_door K vs H Q E
theorem eJ{ws:Ze}{i:Nat}{x:V}(h:(ws.map V.ref)[i]?=some x):∃w,ws[i]?=some w/\x=.ref w:=by
 rw[cA]at h;cases q:ws[i]? with
 |none=>rw[q]at h;cases h
 |some r=>rw[q]at h;exact⟨r,rfl,(c7 h).symm⟩
theorem je{K:Za}{vs:List V}{H:Hp}{Q:VK}{E:XK}(h:sp_first_wrong_door K vs H Q E):jB K (sp_as_keys K) (cf Q) (start jS vs) H:=by
 obtain⟨l,l3,sl,ts,ds,J2,xs,sgs,rfl,hl,hds,h3,hr,hsl,hsg,hz,k⟩:=h;refine⟨_,rfl,lH (aA.of h3) hr fun d hd=>?_⟩;refine fun e he=>?_;have hS0:ae H (upd (upd H d (.dK (be J2))) e (.dT [])):=(ae.new hd).trans (ae.new he);have heH:H e=none:=(ae.new hd).free he;refine⟨_,rfl,l,rfl,⟨_,aA.of (hS0 _ _ hl)⟩,?_⟩;refine gH (xs:=ts.map V.ref) (fun i σ H'=>∃x y,σ=[some (.ref l),some (.ref l3),some (.ref sl),some (.ref d),some (.ref e),x,y]/\ae H H'/\H' d=some (.dK (be J2))/\H' e=some (.dT (ia ((ds.take i).map wJ)))/\AU J2 sgs i (ds.take i) (ds.drop i)=AU J2 sgs 0 [] ds)
  ⟨_,_,rfl,hS0,kp aa he,aa,rfl⟩ (fun i σ H' _ ⟨_,_,_,hS,_⟩=>aA.of (hS _ _ hl)) ?_ ?_
 ·rintro i x σ H' q hi ⟨x5,x6,rfl,hS,hd',he',hf⟩ hq;obtain⟨t,ht,rfl⟩:=eJ hi;obtain⟨dr,hdr,hat⟩:=Paired.getL hds ht;have hil:i<ds.length:=(db.mp hdr).1;have ed:ds.drop i=dr::ds.drop (i+1):=by
   rw[List.drop_eq_getElem_cons hil];congr 1;exact(db.mp hdr).2
  rw[ed]at hf;have hS2:ae H (upd H' q (.tup [.int i,.ref t])):=hS.trans (ae.new hq);have hd2:upd H' q (.tup [.int i,.ref t]) d=_:=kp hd' hq;have he2:upd H' q (.tup [.int i,.ref t]) e=_:=kp he' hq;refine⟨q,_,rfl,bN.of aa,rfl,_,_,rfl,_,_,rfl,rfl,?_⟩;generalize upd H' q (.tup [.int i,.ref t])=H2 at hd2 he2 hS2 ⊢;have hat2:=hat.kt (ae.kt hS2);have hin:mE K H2 (wJ dr) (.ref t):=fJ.isIn 8 (by rw[pF];decide) hat2.tk;have hd8:(wJ dr).depth<=8:=by rw[pF];decide
  obtain⟨s,ht2,hs2⟩:=hat2;have bad:(i=2000∨dr∈ds.take i∨dr.a∉J2∨dr.sg∉sgs∨dr.b∉J2)->Q (.int i) H2:=by
   intro c;have:=k H2 hS2;rw[<-hf]at this;unfold AU at this;rw[if_pos c]at this;exact this
  refine⟨_,rfl,rfl,_,rfl,?_⟩;by_cases c1:i=2000
  ·have e1:decide (V.int (i:Nat)=V.int 2000)=true:=zzr1 (by rw[c1];rfl);rw[e1];exact cQ (cQ ⟨_,rfl,bad (.inl c1)⟩)
  have e1:decide (V.int (i:Nat)=V.int 2000)=false:=zzr0 (fun z=>c1 (by injection z with z;omega));rw[e1];refine bE ?_;refine⟨_,rfl,_,rfl,e,_,rfl,.inr ⟨_,wJ dr,t,.inl he2,rfl,hin,hd8,rfl⟩,_,rfl,?_⟩;rw[zm];by_cases c2:dr∈ds.take i
  ·rw[zzr1 (wm.mpr c2)];exact cQ ⟨_,rfl,bad (.inr (.inl c2))⟩
  rw[zzr0 (fun z=>c2 (wm.mp z))];refine bE ?_;refine⟨_,rfl,.inr (.inl ⟨t,_,0,_,rfl,rfl,bN.of ht2,rfl,_,rfl,d,_,rfl,.inl ⟨_,.inr dr.a,.inl hd2,rfl,rfl⟩,_,rfl,?_⟩)⟩;rw[gF];by_cases c3:dr.a∈J2;rotate_left
  ·rw[zzr0 c3];exact cQ (cQ ⟨_,rfl,bad (.inr (.inr (.inl c3)))⟩)
  rw[zzr1 c3];refine bE ?_;refine⟨_,rfl,.inr (.inl ⟨t,_,1,_,rfl,rfl,bN.of ht2,rfl,_,rfl,xQ dr.sg,sgs.map xQ,sl,xs,ox (bN.of hs2),rfl,.inl (aA.of (hS2 _ _ hsl)),Signs.dIns (Signs.same hS2 hsg),by rw[wE];decide,xS _,_,rfl,?_⟩)⟩;rw[if_pos rfl];by_cases c4:dr.sg∈sgs;rotate_left
  ·rw[zzr0 (fun z=>c4 (wj.mp z))];exact cQ (cQ ⟨_,rfl,bad (.inr (.inr (.inr (.inl c4))))⟩)
  rw[zzr1 (wj.mpr c4)];refine bE ?_;refine⟨_,rfl,.inr (.inl ⟨t,_,2,_,rfl,rfl,bN.of ht2,rfl,_,rfl,d,_,rfl,.inl ⟨_,.inr dr.b,.inl hd2,rfl,rfl⟩,_,rfl,?_⟩)⟩;rw[gF];by_cases c5:dr.b∈J2;rotate_left
  ·rw[zzr0 c5];exact cQ ⟨_,rfl,bad (.inr (.inr (.inr (.inr c5))))⟩
  rw[zzr1 c5];refine bE ?_;have hlen:(ia ((ds.take i).map wJ)).length<aj:=bX (bF (xJ _) (by rw[ap,bf];omega));refine⟨_,rfl,_,rfl,e,_,rfl,.inr ⟨_,wJ dr,t,he2,rfl,eo.tk ⟨s,ht2,hs2⟩,hd8,hlen,rfl⟩,_,_,rfl,?_,?_,?_,?_⟩
  ·intro b o q;rw[ai (ah q heH)];exact hS2 _ _ q
  ·rw[ai (fun z=>by rw[z,he2]at hd2;cases hd2)];exact hd2
  ·rw[aa,take_snoc hdr,aM];exact congrArg (fun z=>some (HO.dT z)) (jL _ _).symm
  ·rw[<-hf,take_snoc hdr]
   conv=>rhs;unfold AU
   rw[if_neg];rintro(z|z|z|z|z)
   ·exact c1 z
   ·exact c2 z
   ·exact z c3
   ·exact z c4
   ·exact z c5
 ·rintro σ H' ⟨x,y,rfl,hS,_,_,hf⟩;have:=k H' hS;rw[<-hf,ap,Paired.length hds,List.drop_length]at this;exact this
theorem tQ{J2:Zb}{sgs:List (List Str)}:∀(ds ahead:List ar) (i:Nat),i+ds.length<=2000->(ahead++ds).Nodup->(∀d∈ds,d.a∈J2/\d.sg∈sgs/\d.b∈J2)->AU J2 sgs i ahead ds=none
 |[],_,_,_,_,_=>rfl
 |n::ns,ahead,i,h1,h2,h3=>by
  rw[c6]at h1;unfold AU;rw[if_neg]
  ·refine tQ ns (ahead++[n]) (i+1) (by omega) (by rw[ij];exact h2) fun w hw=>h3 w (cg _ hw)
  ·have:=h3 n bY;rintro(z|z|z|z|z)
   ·omega
   ·rw[ef]at h2;exact h2.2.2 n z n (bY) rfl
   ·exact z this.1
   ·exact z this.2.1
   ·exact z this.2.2
inductive sp_need_none (vs:List V)(H:Hp)(Q:VK)(E:XK):Prop
 |mk (x:V):(vs=[x,.non])->(Q .non H)->sp_need_none  vs H Q E
theorem rf{K:Za}{vs:List V}{H:Hp}{Q:VK}{E:XK}(h:sp_need_none vs H Q E):sP K (cf Q) (start t8 vs) H:=by
 obtain⟨x,rfl,k⟩:=h;refine⟨_,rfl,_,rfl,?_⟩;have e:(!decide (V.non=V.non))=false:=by rw[zzr1 rfl];rfl
 rw[e];exact bE k
structure Lists(H:Hp)(l1 l2 l3 l4:Addr)(ts:Ze)(J0 J1 J2:Zb)(ds:List ar):Prop where
 a1:H l1=some (.lst (J0.map V.str))
 a2:H l2=some (.lst (J1.map V.str))
 a3:H l3=some (.lst (J2.map V.str))
 a4:H l4=some (.lst (ts.map V.ref))
 ds:cP H ts ds
theorem Lists.same{H H':Hp}{l1 l2 l3 l4:Addr}{ts:Ze}{J0 J1 J2:Zb}{ds:List ar}(h:Lists H l1 l2 l3 l4 ts J0 J1 J2 ds)(e:ae H H'):Lists H' l1 l2 l3 l4 ts J0 J1 J2 ds :=
 ⟨e _ _ h.a1,e _ _ h.a2,e _ _ h.a3,e _ _ h.a4,h.ds.kt (ae.kt e)⟩
inductive sp_need_parts (vs:List V)(H:Hp)(Q:VK)(E:XK):Prop
 |mk (l1 l2 l3 l4:Addr) (ts:Ze) (J0 J1 J2:Zb) (ds:List ar):(vs=[.ref l1,.ref l2,.ref l3,.ref l4])->(Lists H l1 l2 l3 l4 ts J0 J1 J2 ds)->(aI J0 J1 J2 ds)->(∀H',ae H H'->Q .non H')->sp_need_parts  vs H Q E
theorem aI.signs{J0 J1 J2:Zb}{ds:List ar}(m:aI J0 J1 J2 ds):∀d∈ds,d.a∈J2/\d.sg∈gJ J0 J1/\d.b∈J2:=by
 intro d hd;have g:=m.good d hd;refine⟨g.a,?_,g.b⟩;unfold gJ;rcases g.sg with⟨w,hw,e⟩|⟨w,hw,e⟩|e
 ·rw[e];exact fx _ (fx _ (aU.mpr ⟨w,hw,rfl⟩))
 ·rw[e];exact fx _ (fb _ (aU.mpr ⟨w,hw,rfl⟩))
 ·rw[e];exact fb _ (by simp[a_])
theorem fm{ws:Zb}(h:fh ws):∀w∈ws,w.length<=1000:=fun w hw=>bF (h.2 w hw).hi (by decide)
theorem o6{K:Za}{vs:List V}{H:Hp}{Q:VK}{E:XK}(h:sp_need_parts vs H Q E):qJ K sp_need_none (sp_first_wrong_door K) (sp_door_signs K) (sp_first_wrong_name K) (cf Q) (start sh vs) H:=by
 obtain⟨l1,l2,l3,l4,ts,J0,J1,J2,ds,rfl,L,m,k⟩:=h;have w1:bR J0 4 []=none:=eX m.asks0 m.asks4 m.okA.1 m.okA.2;have w2:bR J1 4 J0=none:=eX m.says0 m.says4 (by
  rw[ef];exact⟨m.okA.1,m.okS.1,fun a ha b hb e=>m.apart b hb (e▸ha)⟩) m.okS.2
 have w3:bR J2 150 []=none:=eX m.rooms0 (by have:=m.rooms26;omega) m.okR.1 m.okR.2;have w4:AU J2 (gJ J0 J1) 0 [] ds=none:=tQ ds [] 0 (by have:=m.few;omega) m.nodup m.signs;have z1:=m.asks4;have z2:=m.says4;have z3:=m.rooms26;have z4:=m.few;refine⟨_,rfl,(by show 0<=aj;decide),fun e he=>⟨l1,e,J0,[],4,rfl,aA.of (kp L.a1 he),aA.of aa,by simp;omega,fm m.okA,fun H1 s1=>?_⟩⟩;rw[w1];refine⟨_,rfl,?_⟩;have S1:=(ae.new he).trans s1;refine⟨_,rfl,_,rfl,l2,l1,J1,J0,4,rfl,aA.of (S1 _ _ L.a2),aA.of (S1 _ _ L.a1),by omega,fm m.okS,fun H2 s2=>?_⟩;rw[w2];refine⟨_,rfl,?_⟩;have S2:=S1.trans s2;refine⟨_,rfl,(by show 0<=aj;decide),fun e he=>⟨l3,e,J2,[],150,rfl,aA.of (kp (S2 _ _ L.a3) he),aA.of aa,by simp;omega,fm m.okR,fun H3 s3=>?_⟩⟩;rw[w3];refine⟨_,rfl,?_⟩;have S3:=(S2.trans (ae.new he)).trans s3;refine⟨_,rfl,_,rfl,_,rfl,_,rfl,l1,l2,J0,J1,rfl,S3 _ _ L.a1,S3 _ _ L.a2,by omega,by omega,fun sl xs H4 hx s4 hsl=>?_⟩;have S4:=S3.trans s4;have L4:=L.same S4;refine⟨l4,l3,sl,ts,ds,J2,xs,gJ J0 J1,rfl,L4.a4,L4.ds,L4.a3,by omega,hsl,hx,by omega,fun H5 s5=>?_⟩;rw[w4];exact⟨_,rfl,k H5 (S4.trans s5)⟩
section
variable{κ ι:Type}[DecidableEq κ]{e:ι->κ}
def cL(e:ι->κ)(ps:List (ι×Addr)):List (κ×V):=ps.map fun x=>(e x.1,V.ref x.2)
theorem ko(inj:∀x y,e x=e y->x=y){i:ι}:∀{ps:List (ι×Addr)},i∉ps.map (·.1)->cI (cL e ps) (e i)=none
 |[],_=>rfl
 |x::ps,h=>by
  rw[aS,bg]at h;show cI ((e x.1,V.ref x.2)::cL e ps) (e i)=none;rw[cu (fun z=>h (.inl (inj _ _ z).symm))];exact ko inj (fun z=>h (.inr z))
theorem dO(inj:∀x y,e x=e y->x=y){i:ι}{a:Addr}:∀{ps:List (ι×Addr)},(ps.map (·.1)).Nodup->(i,a)∈ps->cI (cL e ps) (e i)=some (.ref a)
 |[],_,h=>by cases h
 |x::ps,nd,h=>by
  rw[aS,lS]at nd;show cI ((e x.1,V.ref x.2)::cL e ps) (e i)=_;rcases bg.mp h with h|h
  ·rw[<-h];exact cE rfl
  ·rw[cu (fun z=>nd.1 (by rw[inj _ _ z];exact aU.mpr ⟨_,h,rfl⟩))];exact dO inj nd.2 h
theorem pV(ps:List (ι×Addr))(i:ι)(a:Addr):cL e (ps++[(i,a)])=cL e ps++[(e i,.ref a)]:=by
 unfold cL;rw[aM]
 rfl
end
structure DL{ι:Type}(H0 H:Hp)(d:Addr)(ps:List (ι×Addr)):Prop where
 nd:(ps.map (·.1)).Nodup
 na:(ps.map (·.2)).Nodup
 fr:∀x∈ps,H0 x.2=none
 frd:H0 d=none
 ned:∀x∈ps,x.2≠d
 same:ae H0 H
theorem DL.snoc{ι:Type}{H0 H H':Hp}{d:Addr}{ps:List (ι×Addr)}{i:ι}{a:Addr}(h:DL H0 H d ps)(hi:i∉ps.map (·.1))(ha:∀x∈ps,x.2≠a)(fr:H0 a=none)(nd:a≠d)(s:ae H0 H'):DL H0 H' d (ps++[(i,a)]):=by
 refine⟨?_,?_,?_,h.frd,?_,s⟩
 ·rw[aM,ef];refine⟨h.nd,by simp,fun x hx y hy e=>?_⟩;have:y=i:=by simpa using hy
  exact hi (by rw[<-this,<-e];exact hx)
 ·rw[aM,ef];refine⟨h.na,by simp,fun x hx y hy e=>?_⟩;have:y=a:=by simpa using hy
  obtain⟨z,hz,rfl⟩:=aU.mp hx;exact ha z hz (e.trans this)
 ·intro x hx;rcases bO.mp hx with hx|hx
  ·exact h.fr x hx
  ·have:x=(i,a):=by simpa using hx
   rw[this];exact fr
 ·intro x hx;rcases bO.mp hx with hx|hx
  ·exact h.ned x hx
  ·have:x=(i,a):=by simpa using hx
   rw[this];exact nd
theorem zi{ι:Type}:∀{ps:List (ι×Addr)},(ps.map (·.2)).Nodup->∀{x y:ι×Addr},x∈ps->y∈ps->x.2=y.2->x=y
 |[],_,x,_,h,_,_=>by cases h
 |p::ps,nd,x,y,hx,hy,e=>by
  rw[aS,lS]at nd;rcases bg.mp hx with hx'|hx'<;>rcases bg.mp hy with hy'|hy'
  ·rw[hx',hy']
  ·exact absurd (aU.mpr ⟨y,hy',by rw[<-e,hx']⟩) nd.1
  ·exact absurd (aU.mpr ⟨x,hx',by rw[e,hy']⟩) nd.1
  ·exact zi nd.2 hx' hy' e
theorem g8:∀x y:Str,(Sum.inr x:cG)=Sum.inr y->x=y:=fun x y h=>by injection h
def bM(ds:List ar)(r:Str):List ar:=ds.filter fun d=>decide (d.a=r)
inductive sp_doors_by_start (vs:List V)(H:Hp)(Q:VK)(E:XK):Prop
 |mk (l3 l4:Addr) (ts:Ze) (J2:Zb) (ds:List ar):(vs=[.ref l3,.ref l4])->(H l3=some (.lst (J2.map V.str)))->(H l4=some (.lst (ts.map V.ref)))->(cP H ts ds)->(J2.Nodup)->(J2.length<=1000)->(ds.length<=9000)->((∀d∈ds,d.a∈J2))->(∀(d:Addr) (ps:List (Str×Addr)) (H':Hp),ps.map (·.1)=J2->H' d=some (.dK (cL Sum.inr ps))->(∀x∈ps,∃us,H' x.2=some (.lst (us.map V.ref))/\cP H' us (bM ds x.1))->ae H H'->Q (.ref d) H')->sp_doors_by_start  vs H Q E
theorem kf{K:Za}{vs:List V}{H:Hp}{Q:VK}{E:XK}(h:sp_doors_by_start vs H Q E):k_ K (cf Q) (start lL vs) H:=by
 obtain⟨l3,l4,ts,J2,ds,rfl,h3,h4,hds,nod,hz,hz2,hin,k⟩:=h;refine fun d hd=>?_;refine⟨_,rfl,l3,rfl,⟨_,aA.of (kp h3 hd)⟩,?_⟩;refine fH (xs:=J2.map V.str) (fun i σ H'=>∃x y,σ=[some (.ref l3),some (.ref l4),some (.ref d),x,y]/\∃ps:List (Str×Addr),ps.map (·.1)=J2.take i/\H' d=some (.dK (cL Sum.inr ps))/\DL H H' d ps/\∀x∈ps,H' x.2=some (.lst []))
  ⟨_,_,rfl,[],rfl,aa,⟨by simp,by simp,by simp,hd,by simp,ae.new hd⟩,by simp⟩ (fun i σ H' _ ⟨_,_,_,_,_,_,D,_⟩=>aA.of (D.same _ _ h3)) ?_ ?_
 ·rintro i x σ H' hi ⟨x3,x4,rfl,ps,hps,hd',D,hls⟩;obtain⟨w,hw,rfl⟩:=dF hi;have hnew:w∉ps.map (·.1):=by
   rw[hps];intro z;have:=nod;rw[<-List.take_append_drop (i+1) J2,take_snoc hw,ef]at this;have:=this.1;rw[ef]at this;exact this.2.2 w z w (by simp) rfl
  refine⟨(by show 0<=aj;decide),fun a ha=>?_⟩;have hlen:(cL (Sum.inr:Str->cG) ps).length<aj:=bc (by
   unfold cL;rw[ap,<-ap (f:=(·.1)) (as:=ps),hps,bf];omega)
  have haH:H a=none:=D.same.free ha;have nda:a≠d:=(ah hd' ha).symm;have hneA:∀x∈ps,x.2≠a:=fun x hx=>ah (hls x hx) ha;refine⟨_,rfl,_,rfl,d,_,rfl,.inl ⟨_,.inr w,kp hd' ha,rfl,hlen,rfl⟩,_,_,rfl,ps++[(w,a)],?_,?_,?_,?_⟩
  ·rw[aM,hps,take_snoc hw];rfl
  ·rw[aa,tq _ (ko g8 hnew),pV]
  ·refine D.snoc hnew hneA haH nda ?_;intro b o q;rw[ai (ah q hd)];exact kp (D.same _ _ q) ha
  ·intro x hx;rcases bO.mp hx with hx|hx
   ·rw[ai (D.ned x hx)];exact kp (hls x hx) ha
   ·have:x=(w,a):=by simpa using hx
    rw[this,ai nda];exact aa
 ·rintro σ H1 ⟨x3,x4,rfl,ps,hps,hd1,D1,hls⟩;rw[ap,c9]at hps;refine⟨_,rfl,l4,rfl,⟨_,aA.of (D1.same _ _ h4)⟩,?_⟩;refine fH (xs:=ts.map V.ref) (fun i σ H'=>∃x4,σ=[some (.ref l3),some (.ref l4),some (.ref d),x3,x4]/\H' d=some (.dK (cL Sum.inr ps))/\DL H H' d ps/\∀x∈ps,∃us,H' x.2=some (.lst (us.map V.ref))/\cP H' us (bM (ds.take i) x.1))
   ⟨_,rfl,hd1,D1,fun x hx=>⟨[],hls x hx,.nil⟩⟩ (fun i σ H' _ ⟨_,_,_,D,_⟩=>aA.of (D.same _ _ h4)) ?_ ?_
  ·rintro i x σ H' hi ⟨x4,rfl,hd',D,hls⟩;obtain⟨t,ht,rfl⟩:=eJ hi;obtain⟨dr,hdr,hat⟩:=Paired.getL hds ht;have hat':=hat.kt (ae.kt D.same);have hat2:=hat';obtain⟨s,ht2,hs2⟩:=hat';have hmem:dr.a∈ps.map (·.1):=by rw[hps];exact hin dr (bU hdr)
   obtain⟨⟨r,a⟩,hra,er⟩:=aU.mp hmem;obtain rfl:r=dr.a:=er;obtain⟨us,hus,hdo⟩:=hls _ hra;have hil:i<ds.length:=(db.mp hdr).1;have hlu:us.length<=9000:=by
    rw[Paired.length hdo];refine bF (m7 _ _) ?_;rw[bf];omega
   have KT:vx H' (upd H' a (.lst (us.map V.ref++[.ref t]))):=jJ hus;refine⟨_,rfl,_,rfl,.inr (.inl ⟨t,_,0,_,rfl,rfl,bN.of ht2,rfl,d,.ref a,rfl,.inl ⟨_,.inr dr.a,.inl hd',rfl,(dO g8 D.nd hra).symm⟩,.inl ⟨rfl,_,aA.of hus⟩,_,rfl,a,_,_,rfl,rfl,hus,?_,_,rfl,?_,?_,?_⟩)⟩
   ·rw[ap];exact bX hlu
   ·rw[ai (D.ned _ hra).symm];exact hd'
   ·refine⟨D.nd,D.na,D.fr,D.frd,D.ned,fun b o q=>?_⟩;rw[ai (ah q (D.fr _ hra))];exact D.same _ _ q
   ·intro x hx;have hfl:∀r',bM (ds.take (i+1)) r'=bM (ds.take i) r'++(if dr.a=r' then[dr]else[]):=by
     intro r';unfold bM;rw[take_snoc hdr,qd];congr 1;by_cases c:dr.a=r'
     ·rw[if_pos c];simp[c]
     ·rw[if_neg c];simp[c]
    by_cases c:x.2=a
    ·have ex:=zi D.na hx hra c;subst ex;refine⟨us++[t],?_,?_⟩
     ·show upd H' a _ a=_;rw[aa,aM];rfl
     ·rw[hfl];show cP _ _ (bM (ds.take i) dr.a++(if dr.a=dr.a then[dr]else[]))
      rw[if_pos rfl];exact Paired.app (hdo.kt KT) (.cons (hat2.kt KT) .nil)
    ·obtain⟨us',h1,h2⟩:=hls x hx;have hne:¬(dr.a=x.1):=fun z=>by
      have e1:=dO (e:=(Sum.inr:Str->cG)) g8 D.nd hra;have e2:=dO (e:=(Sum.inr:Str->cG)) (i:=x.1) (a:=x.2) g8 D.nd hx;rw[<-z,e1]at e2;injection e2 with e2;injection e2 with e2;exact c e2.symm
     refine⟨us',by rw[ai c];exact h1,?_⟩;rw[hfl,if_neg hne,i9];exact h2.kt KT
  ·rintro σ H' ⟨x4,rfl,hd',D,hls⟩;rw[ap,Paired.length hds,c9]at hls;exact⟨_,rfl,k d ps H' hps hd' hls D.same⟩
def tM(d:ar):Bool:=match d.sg with
 |s::_=>decide (s=("ask":Str))
 |[]=>false
inductive sp_has_asks_alone (vs:List V)(H:Hp)(Q:VK)(E:XK):Prop
 |mk (a:Addr) (us:Ze) (ds:List ar):(vs=[.ref a])->(H a=some (.lst (us.map V.ref)))->(cP H us ds)->(ds.length<=9000)->((∀d∈ds,d.sg≠[]))->(∀H',ae H H'->Q (.bl (ds.all tM)) H')->sp_has_asks_alone  vs H Q E
theorem ke{K:Za}{vs:List V}{H:Hp}{Q:VK}{E:XK}(h:sp_has_asks_alone vs H Q E):k7 K (cf Q) (start lK vs) H:=by
 obtain⟨a,us,ds,rfl,ha,hds,hz,hne,k⟩:=h;refine⟨_,rfl,a,rfl,⟨_,aA.of ha⟩,fun l hl=>?_⟩;refine em (xs:=us.map V.ref) (fun i vs H'=>vs=(ds.take i).map (fun d=>V.bl (tM d))/\ae H H'/\H' l=some (.lst vs))
  ⟨rfl,ae.new hl,aa⟩ (fun i vs H' _ ⟨_,hS,h'⟩=>⟨h',aA.of (hS _ _ ha)⟩) ?_ ?_
 ·rintro vs H' ⟨rfl,hS,h'⟩;rw[ap,Paired.length hds,c9]at h';refine⟨l,ds.map tM,rfl,aA.of (by rw[h',cR];rfl),?_⟩;rw[kN];exact k H' hS
 ·rintro i vs H' x hx hi ⟨rfl,hS,h'⟩;obtain⟨t,ht,rfl⟩:=eJ hx;obtain⟨dr,hdr,hat⟩:=Paired.getL hds ht;obtain⟨s,ht2,hs2⟩:=hat.kt (ae.kt hS);have hmem:=bU hdr;obtain⟨s0,rest,hsg⟩:∃s0 rest,dr.sg=s0::rest:=by
   cases q:dr.sg with
   |nil=>exact absurd q (hne dr hmem)
   |cons x y=>exact⟨x,y,rfl⟩
  unfold SignAt at hs2;rw[hsg]at hs2;refine gN (qH ?_);refine⟨_,rfl,.inr (.inl ⟨t,_,1,_,rfl,rfl,bN.of ht2,rfl,.inr (.inl ⟨s,_,0,.str s0,rfl,rfl,bN.of hs2,eE (j:=0) rfl,rfl,h',?_,xG hi ⟨?_,?_,aa⟩⟩)⟩)⟩
  ·rw[ap,bf];exact bX (by omega)
  ·rw[take_snoc hdr,aM];congr 1;show[V.bl _]=[V.bl _];congr 2;unfold tM;rw[hsg];show decide (V.str s0=V.str _)=decide (s0=_);by_cases c:s0=("ask":Str)
   ·rw[zzr1 c,zzr1 (by rw[c])]
   ·rw[zzr0 c,zzr0 (fun z=>c (by injection z))]
  ·intro b o e;rw[ai (ah e hl)];exact hS _ _ e
def sv(x:Str×List Str):TK:=.t [oS x.1,zA x.2]
theorem gW:∀x y:Str×List Str,sv x=sv y->x=y:=by
 intro x y h;unfold sv at h;injection h with h;injection h with h1 h;injection h with h2 h;cases x;cases y;simp only at *;rw[mM h1,wz h2]
theorem pI(x:Str×List Str):(sv x).depth<=8:=by
 show max (TK.depth (oS x.1)) (max (TK.depth (zA x.2)) 0)+1<=8;rw[pE];show max 0 (max 1 0)+1<=8
 decide
def bJ(ds:List ar)(x:Str×List Str):List Str:=(ds.filter fun d=>decide (d.a=x.1/\d.sg=x.2)).map (·.b)
theorem rM(ds:List ar)(d:ar)(x:Str×List Str):bJ (ds++[d]) x=bJ ds x++(if(d.a,d.sg)=x then[d.b]else[]):=by
 unfold bJ;rw[qd,aM];congr 1;by_cases c:(d.a,d.sg)=x
 ·subst c;simp
 ·rw[if_neg c];have:¬(d.a=x.1/\d.sg=x.2):=fun z=>c (by cases x;simp only at z;rw[z.1,z.2]);simp[List.filter_cons];intro h1 h2;exact this ⟨h1,h2⟩
theorem me{ds:List ar}{x:Str×List Str}(h:∀d∈ds,(d.a,d.sg)≠x):bJ ds x=[]:=by
 unfold bJ;rw[List.map_eq_nil_iff,List.filter_eq_nil_iff];intro d hd;have:¬(d.a=x.1/\d.sg=x.2):=fun z=>h d hd (by cases x;simp only at z;rw[z.1,z.2]);simp;intro h1 h2;exact this ⟨h1,h2⟩
theorem iF{ds:List ar}{x:Str×List Str}{b:Str}:b∈bJ ds x↔(⟨x.1,x.2,b⟩:ar)∈ds:=by
 unfold bJ;rw[aU];constructor
 ·rintro⟨d,hd,rfl⟩;rw[List.mem_filter]at hd;obtain⟨h1,h2⟩:=hd;obtain⟨h3,h4⟩:=of_decide_eq_true h2;cases d;simp only at h3 h4;rw[<-h3,<-h4];exact h1
 ·intro h;exact⟨_,List.mem_filter.mpr ⟨h,zzr1 ⟨rfl,rfl⟩⟩,rfl⟩
structure gb(H:Hp)(g:Addr)(ps:List ((Str×List Str)×Addr))(ds:List ar):Prop where
 nd:(ps.map (·.1)).Nodup
 g:H g=some (.dT (cL sv ps))
 ls:∀x∈ps,H x.2=some (.lst ((bJ ds x.1).map V.str))
 all:∀d∈ds,(d.a,d.sg)∈ps.map (·.1)
theorem gb.same{H H':Hp}{g:Addr}{ps:List ((Str×List Str)×Addr)}{ds:List ar}(h:gb H g ps ds)(s:ae H H'):gb H' g ps ds:=⟨h.nd,s _ _ h.g,fun x hx=>s _ _ (h.ls x hx),h.all⟩
inductive ka (vs:List V)(H:Hp)(Q:VK)(E:XK):Prop
 |mk (l4:Addr) (ts:Ze) (ds:List ar):(vs=[.ref l4])->(H l4=some (.lst (ts.map V.ref)))->(cP H ts ds)->(ds.length<=9000)->(∀(g:Addr) (ps:List ((Str×List Str)×Addr)) (H':Hp),gb H' g ps ds->ae H H'->Q (.ref g) H')->ka  vs H Q E
theorem fF{K:Za}{vs:List V}{H:Hp}{Q:VK}{E:XK}(h:ka vs H Q E):fO K (cf Q) (start fQ vs) H:=by
 obtain⟨l4,ts,ds,rfl,h4,hds,hz,k⟩:=h;refine fun g hg=>?_;refine⟨_,rfl,l4,rfl,⟨_,aA.of (kp h4 hg)⟩,?_⟩;refine fH (xs:=ts.map V.ref) (fun i σ H'=>∃x y z,σ=[some (.ref l4),some (.ref g),x,y,z]/\∃ps:List ((Str×List Str)×Addr),DL H H' g ps/\H' g=some (.dT (cL sv ps))/\ps.length<=i/\(∀x∈ps,H' x.2=some (.lst ((bJ (ds.take i) x.1).map V.str)))/\∀d∈ds.take i,(d.a,d.sg)∈ps.map (·.1))
  ⟨_,_,_,rfl,[],⟨by simp,by simp,by simp,hg,by simp,ae.new hg⟩,aa,by simp,by simp,by simp⟩ (fun i σ H' _ ⟨_,_,_,_,_,D,_⟩=>aA.of (D.same _ _ h4)) ?_ ?_
 ·rintro i x σ H' hi ⟨x2,x3,x4,rfl,ps,D,hg',hlen,hls,hall⟩;obtain⟨t,ht,rfl⟩:=eJ hi;obtain⟨dr,hdr,hat⟩:=Paired.getL hds ht;have hil:i<ds.length:=(db.mp hdr).1;obtain⟨s,ht2,hs2⟩:=hat.kt (ae.kt D.same);refine⟨t,_,rfl,bN.of ht2,rfl,_,_,rfl,_,_,rfl,_,_,rfl,rfl,?_⟩;refine⟨_,rfl,.inr (.inr (.inl ⟨rfl,.inr ⟨_,hg'⟩⟩)),_,rfl,_,rfl,(by show 2<=aj;decide),fun kt hkt=>⟨(by show 0<=aj;decide),fun nl hnl=>?_⟩⟩;have S2:ae H' (upd (upd H' kt (.tup [.str dr.a,.ref s])) nl (.lst [])):=(ae.new hkt).trans (ae.new hnl);have hkt2:upd (upd H' kt (.tup [.str dr.a,.ref s])) nl (.lst []) kt=some (.tup [.str dr.a,.ref s]):=kp aa hnl;have hnl2:upd (upd H' kt (.tup [.str dr.a,.ref s])) nl (.lst []) nl=some (.lst []):=aa;have hnlH':H' nl=none:=(ae.new hkt).free hnl;generalize upd (upd H' kt (.tup [.str dr.a,.ref s])) nl (.lst [])=H2 at S2 hkt2 hnl2 ⊢;have htk:fJ H2 (sv (dr.a,dr.sg)) (.ref kt):=by
   unfold sv fJ;refine⟨kt,_,rfl,hkt2,?_⟩;unfold TKAts;refine⟨_,_,rfl,um _,?_⟩;unfold TKAts;refine⟨_,_,rfl,SignAt.tk (S2 _ _ hs2),?_⟩;unfold TKAts
   rfl
  have hlk:(cL sv ps).length<aj:=bX (by unfold cL;rw[ap];omega);have hgo:∀x,bJ (ds.take (i+1)) x=bJ (ds.take i) x++(if(dr.a,dr.sg)=x then[dr.b]else[]):=fun x=>by rw[take_snoc hdr,rM]
  have hgl:∀x,(bJ (ds.take i) x).length<=9000:=fun x=>by
   unfold bJ;rw[ap];refine bF (m7 _ _) ?_;rw[bf];omega
  refine⟨g,kt,_,sv (dr.a,dr.sg),.ref nl,rfl,rfl,S2 _ _ hg',htk,pI _,hlk,fun v hv=>?_,fun hv=>?_⟩
  ·-- there already
   have hmem:(dr.a,dr.sg)∈ps.map (·.1):=by
    refine Classical.byContradiction fun z=>?_;rw[ko gW z]at hv;cases hv
   obtain⟨⟨r,a⟩,hra,er⟩:=aU.mp hmem;obtain rfl:r=(dr.a,dr.sg):=er;rw[dO gW D.nd hra]at hv;injection hv with hv;subst hv;have hla:=S2 _ _ (hls _ hra);refine⟨.inl ⟨rfl,_,aA.of hla⟩,_,rfl,a,_,_,rfl,rfl,hla,by rw[ap];exact bX (hgl _),_,_,_,rfl,ps,⟨D.nd,D.na,D.fr,D.frd,D.ned,fun b o q=>?_⟩,?_,by omega,?_,?_⟩
   ·rw[ai (ah q (D.fr _ hra))];exact S2 _ _ (D.same _ _ q)
   ·rw[ai (D.ned _ hra).symm];exact S2 _ _ hg'
   ·intro x hx;by_cases c:x.2=a
    ·have ex:=zi D.na hx hra c;subst ex;show upd H2 a _ a=_;rw[aa,hgo,if_pos rfl,aM];rfl
    ·have hne:¬((dr.a,dr.sg)=x.1):=fun z=>by
      have e1:=dO (e:=sv) gW D.nd hra;have e2:=dO (e:=sv) (i:=x.1) (a:=x.2) gW D.nd hx;rw[<-z,e1]at e2;injection e2 with e2;injection e2 with e2;exact c e2.symm
     rw[ai c,hgo,if_neg hne,i9];exact S2 _ _ (hls x hx)
   ·intro d hd;rw[take_snoc hdr]at hd;rcases bO.mp hd with hd|hd
    ·exact hall d hd
    ·have:d=dr:=by simpa using hd
     rw[this];exact hmem
  ·-- a new list
   have hnew:(dr.a,dr.sg)∉ps.map (·.1):=by
    intro z;obtain⟨⟨r,a⟩,hra,er⟩:=aU.mp z;obtain rfl:r=(dr.a,dr.sg):=er;rw[dO gW D.nd hra]at hv;cases hv
   have hgne:nl≠g:=(ah hg' hnlH').symm;have hnl3:upd H2 g (.dT (cL sv ps++[(sv (dr.a,dr.sg),.ref nl)])) nl=some (.lst []):=by rw[ai hgne];exact hnl2
   refine⟨.inl ⟨rfl,_,aA.of hnl3⟩,_,rfl,nl,_,_,rfl,rfl,hnl3,(by show 0<aj;decide),_,_,_,rfl,ps++[((dr.a,dr.sg),nl)],?_,?_,?_,?_,?_⟩
   ·refine D.snoc hnew (fun x hx=>ah (hls x hx) hnlH') (D.same.free hnlH') hgne ?_;intro b o q;rw[ai (ah q (D.same.free hnlH')),ai (ah q hg)];exact S2 _ _ (D.same _ _ q)
   ·rw[ai hgne.symm,aa,pV]
   ·rw[bd];show _+1<=_;omega
   ·intro x hx;rcases bO.mp hx with hx|hx
    ·have hne:¬((dr.a,dr.sg)=x.1):=fun z=>hnew (by rw[z];exact aU.mpr ⟨x,hx,rfl⟩);rw[ai (ah (hls x hx) hnlH'),ai (D.ned x hx),hgo,if_neg hne,i9];exact S2 _ _ (hls x hx)
    ·have:x=((dr.a,dr.sg),nl):=by simpa using hx
     subst this;have hnil:bJ (ds.take i) (dr.a,dr.sg)=[]:=me fun d hd z=>hnew (by rw[<-z];exact hall d hd);show upd _ nl _ nl=_;rw[aa,hgo,if_pos rfl,hnil]
     rfl
   ·intro d hd;rw[aM];rw[take_snoc hdr]at hd;rcases bO.mp hd with hd|hd
    ·exact fx _ (hall d hd)
    ·have:d=dr:=by simpa using hd
     rw[this];exact fb _ (by simp)
 ·rintro σ H' ⟨x2,x3,x4,rfl,ps,D,hg',hlen,hls,hall⟩;rw[ap,Paired.length hds,c9]at hls hall;exact⟨_,rfl,k g ps H' ⟨D.nd,hg',hls,hall⟩ D.same⟩
theorem tD:∀{L R:Zb},L.Nodup->(∀y∈L,y∈R)->L.length<=R.length
 |[],_,_,_=>cy _
 |x::L,R,nd,h=>by
  rw[lS]at nd;have hx:=h x bY;have:=tD (L:=L) (R:=R.erase x) nd.2 fun y hy=>(List.mem_erase_of_ne (fun e:y=x=>nd.1 (by rw[<-e];exact hy))).mpr (h y (cg _ hy));rw[List.length_erase_of_mem hx]at this;have:0<R.length:=List.length_pos_of_mem hx;rw[c6];omega
theorem Reach.in_{ds:List ar}{a b:Str}{J2:Zb}(hr:∀d∈ds,d.b∈J2)(h:Reach ds a b):b∈J2:=by
 cases h with
 |one h=>exact hr _ h
 |step r h=>exact hr _ h
inductive qW (vs:List V)(H:Hp)(Q:VK)(E:XK):Prop
 |mk (g:Addr) (room:Str) (ps:List ((Str×List Str)×Addr)) (ds:List ar) (J2:Zb):(vs=[.ref g,.str room])->(gb H g ps ds)->((∀d∈ds,d.b∈J2))->(J2.length<=1000)->(∀(d:Addr) (L:Zb) (H':Hp),H' d=some (.dK (be L))->L.Nodup->(∀w,w∈L↔Reach ds room w)->H d=none->ae H H'->Q (.ref d) H')->qW  vs H Q E
structure CO(H0 H:Hp)(ds:List ar)(room:Str)(d w:Addr)(L W:Zb)(open_:Str->Prop):Prop where
 d:H d=some (.dK (be L))
 w:H w=some (.lst (W.map V.str))
 same:ae H0 H
 nd:L.Nodup
 sound:∀y∈L,Reach ds room y
 wait:∀y∈W,y=room∨y∈L
 closed:∀y,(y=room∨y∈L)->y∉W->¬open_ y->∀c∈bJ ds (y,a_),c∈L
theorem mz{K:Za}{st:Addr}(hst:∀H,bN K H st (a_.map V.str)){vs:List V}{H:Hp}{Q:VK}{E:XK}(h:qW vs H Q E):nI K st (cf Q) (start oK vs) H:=by
 obtain⟨g,room,ps,ds,J2,rfl,G,hin,hz,k⟩:=h;refine fun d hd=>?_;refine⟨_,rfl,(by show 1<=aj;decide),fun w hw=>?_⟩;have hwH:H w=none:=(ae.new hd).free hw;have hdw:d≠w:=ah aa hw;refine⟨fun m σ H'=>∃(L W:Zb) (x y:Option V),σ=[some (.ref g),some (.str room),some (.ref d),some (.ref w),x,y]/\CO H H' ds room d w L W (fun _=>False)/\m=2 * (J2.length-L.length)+W.length/\m<=2 * J2.length+1,
  ⟨_,[],[room],_,_,rfl,⟨kp aa hw,aa,(ae.new hd).trans (ae.new hw),ir,by simp,by simp,?_⟩,rfl,aD _⟩,?_⟩
 ·intro y hy hn;rcases hy with rfl|hy
  ·simp at hn
  ·cases hy
 rintro m σ H1 ⟨L,W,x4,x5,rfl,D,rfl,hbound⟩;have lenL:∀{L':Zb},L'.Nodup->(∀y∈L',Reach ds room y)->L'.length<=J2.length:=fun nd sd=>tD nd fun y hy=>(sd y hy).in_ hin;refine⟨_,rfl,.inl ⟨w,_,rfl,.inl (aA.of D.w),_,_,rfl,rfl,_,rfl,?_⟩⟩;refine pb (fun hpos=>?_) (fun hpos=>?_)
 ·have hne:W≠[]:=by
   intro z;rw[z]at hpos;exact absurd (of_decide_eq_true hpos) (by decide)
  obtain⟨W',here,rfl⟩:∃W' here,W=W'++[here]:=⟨W.dropLast,W.getLast hne,(List.dropLast_concat_getLast hne).symm⟩;have hhere:here=room∨here∈L:=D.wait here (by simp);refine⟨fun σ' H'=>∃(L' W2:Zb) (x y:Option V),σ'=[some (.ref g),some (.str room),some (.ref d),some (.ref w),x,y]/\CO H H' ds room d w L' W2 (fun _=>False)/\2 * (J2.length-L'.length)+W2.length<2 * (J2.length-L.length)+(W'++[here]).length,
   fun σ' H' ⟨L',W2,x,y,e,D',hm⟩=>⟨_,hm,L',W2,x,y,e,D',rfl,by omega⟩,?_⟩
  have hlast:((W'++[here]).map V.str)[((W'++[here]).map V.str).length-1]?=some (.str here):=by simp
  have hdrop:((W'++[here]).map V.str).dropLast=W'.map V.str:=by rw[aM];simp
  refine⟨_,rfl,.inl ⟨rfl,_,aA.of D.w⟩,w,_,_,rfl,rfl,D.w,hlast,?_⟩;rw[hdrop];have hd1:upd H1 w (.lst (W'.map V.str)) d=some (.dK (be L)):=by rw[ai hdw];exact D.d
  have hw1:upd H1 w (.lst (W'.map V.str)) w=some (.lst (W'.map V.str)):=aa;have S1:ae H (upd H1 w (.lst (W'.map V.str))):=fun b o q=>by rw[ai (ah q hwH)];exact D.same _ _ q
  generalize upd H1 w (.lst (W'.map V.str))=H2 at hd1 hw1 S1 ⊢;have G2:=G.same S1;refine⟨_,rfl,g,rfl,.inr ⟨_,.inl G2.g⟩,_,rfl,(by show 2<=aj;decide),fun kt hkt=>⟨(by show 0<=aj;decide),fun et het=>⟨cI (cL sv ps) (sv (here,a_)),.inr ⟨_,sv (here,a_),kt,.inl ?_,rfl,?_,pI _,rfl⟩,?_⟩⟩⟩
  ·exact kp (kp G2.g hkt) het
  ·unfold sv mE;refine⟨kt,_,rfl,bN.of (kp aa het),?_⟩;unfold TKIns;refine⟨_,_,rfl,?_,?_⟩
   ·unfold oS mE;rfl
   unfold TKIns;refine⟨_,_,rfl,?_,?_⟩
   ·unfold zA mE;refine⟨st,_,rfl,hst _,?_⟩;unfold a_;show TKIns K _ [oS _] [V.str _];unfold TKIns;refine⟨_,_,rfl,?_,?_⟩
    ·unfold oS mE;rfl
    unfold TKIns;rfl
   unfold TKIns;rfl
  have S3:ae H2 (upd (upd H2 kt (.tup [.str here,.ref st])) et (.tup [])):=(ae.new hkt).trans (ae.new het);have het3:upd (upd H2 kt (.tup [.str here,.ref st])) et (.tup []) et=some (.tup []):=aa;generalize upd (upd H2 kt (.tup [.str here,.ref st])) et (.tup [])=H3 at S3 het3 ⊢;have D3:CO H H3 ds room d w L W' (fun y=>y=here):=⟨S3 _ _ hd1,S3 _ _ hw1,S1.trans S3,D.nd,D.sound,fun y hy=>D.wait y (fx _ hy),fun y hy hn ho=>D.closed y hy (fun z=>by rcases bO.mp z with z|z;exact hn z;exact ho (by simpa using z)) (fun z=>z)⟩;have hm3:2 * (J2.length-L.length)+W'.length<2 * (J2.length-L.length)+(W'++[here]).length:=by rw[bd];show _<_+(_+1);omega
  have fin:∀(H4:Hp) (L' W2:Zb) (x y:Option V),CO H H4 ds room d w L' W2 (fun y=>y=here)->(∀c∈bJ ds (here,a_),c∈L')->2 * (J2.length-L'.length)+W2.length<2 * (J2.length-L.length)+(W'++[here]).length ->
    ∃(L' W2:Zb) (x' y':Option V),[some (V.ref g),some (.str room),some (.ref d),some (.ref w),x,y]=[some (.ref g),some (.str room),some (.ref d),some (.ref w),x',y']/\CO H H4 ds room d w L' W2 (fun _=>False)/\2 * (J2.length-L'.length)+W2.length<2 * (J2.length-L.length)+(W'++[here]).length:=by
   intro H4 L' W2 x y D4 hc hm;refine⟨L',W2,x,y,rfl,⟨D4.d,D4.w,D4.same,D4.nd,D4.sound,D4.wait,fun y hy hn _=>?_⟩,hm⟩;by_cases e:y=here
   ·rw[e];exact hc
   ·exact D4.closed y hy hn e
  by_cases hmem:(here,a_)∈ps.map (·.1)
  ·obtain⟨⟨r,a⟩,hra,er⟩:=aU.mp hmem;obtain rfl:r=(here,a_):=er;rw[dO gW G.nd hra];have hla:=G.ls _ hra;refine⟨a,rfl,.inl ⟨⟨_,aA.of ((S1.trans S3) _ _ hla)⟩,?_⟩⟩;refine fH (xs:=(bJ ds (here,a_)).map V.str) (fun j σ H'=>∃(L' W2:Zb) (y:Option V),σ=[some (.ref g),some (.str room),some (.ref d),some (.ref w),some (.str here),y]/\CO H H' ds room d w L' W2 (fun y=>y=here)/\(here=room∨here∈L')/\(∀c∈(bJ ds (here,a_)).take j,c∈L') /\
     2 * (J2.length-L'.length)+W2.length<2 * (J2.length-L.length)+(W'++[here]).length)
    ⟨L,W',_,rfl,D3,hhere,by simp,hm3⟩ (fun j σ H' _ ⟨_,_,_,_,D',_⟩=>aA.of (D'.same _ _ hla)) ?_ ?_
   ·rintro j x σ H4 hj ⟨L',W2,y,rfl,D4,hh,hc,hm⟩;obtain⟨goal,hgoal,rfl⟩:=dF hj;have hedge:(⟨here,a_,goal⟩:ar)∈ds:=iF.mp (bU hgoal);have hreach:Reach ds room goal:=by
     rcases hh with hh|hh
     ·rw[hh]at hedge;exact .one hedge
     ·exact .step (D4.sound _ hh) hedge
    have hlen':=lenL D4.nd D4.sound;refine⟨_,rfl,_,rfl,d,_,rfl,.inl ⟨_,.inr goal,.inl D4.d,rfl,rfl⟩,_,rfl,?_⟩;rw[gF];by_cases c:goal∈L'
    ·rw[zzr1 c];refine bE ⟨L',W2,_,rfl,D4,hh,?_,hm⟩;intro c' hc';rw[take_snoc hgoal]at hc';rcases bO.mp hc' with h|h
     ·exact hc c' h
     ·have:c'=goal:=by simpa using h
      rw[this];exact c
    ·rw[zzr0 c];refine cQ ?_;have nd':(L'++[goal]).Nodup:=by
      rw[ef];refine⟨D4.nd,by simp,fun a ha b hb e=>?_⟩;have:b=goal:=by simpa using hb
      exact c (by rw[<-this,<-e];exact ha)
     have sd':∀y∈L'++[goal],Reach ds room y:=by
      intro y hy;rcases bO.mp hy with hy|hy
      ·exact D4.sound y hy
      ·have:y=goal:=by simpa using hy
       rw[this];exact hreach
     have hlen2:=lenL nd' sd';rw[bd]at hlen2;have hlen3:L'.length+1<=J2.length:=hlen2;have hWl:W2.length<=9000:=by omega
     refine⟨_,rfl,_,rfl,d,_,rfl,.inl ⟨_,.inr goal,D4.d,rfl,bc (bF (jK _) (by omega)),rfl⟩,?_⟩;have hw5:upd H4 d (.dK (eK (be L') (.inr goal) (.bl true))) w=some (.lst (W2.map V.str)):=by rw[ai hdw.symm];exact D4.w
     refine⟨_,rfl,.inl ⟨rfl,_,aA.of hw5⟩,_,rfl,w,_,_,rfl,rfl,hw5,by rw[ap];exact bX hWl,L'++[goal],W2++[goal],_,rfl,⟨?_,?_,?_,nd',sd',?_,?_⟩,?_,?_,?_⟩
     ·rw[ai hdw,aa,eN]
     ·rw[aa,aM];rfl
     ·intro b o q;rw[ai (ah q hwH),ai (ah q hd)];exact D4.same _ _ q
     ·intro y hy;rcases bO.mp hy with hy|hy
      ·rcases D4.wait y hy with h|h
       ·exact .inl h
       ·exact .inr (fx _ h)
      ·exact .inr (fb _ hy)
     ·intro y hy hn ho c' hc';have hn1:y∉W2:=fun z=>hn (fx _ z);have hyg:y≠goal:=fun z=>hn (fb _ (by simp[z]));refine fx _ (D4.closed y ?_ hn1 ho c' hc');rcases hy with hy|hy
      ·exact .inl hy
      ·rcases bO.mp hy with hy|hy
       ·exact .inr hy
       ·exact absurd (by simpa using hy) hyg
     ·rcases hh with h|h
      ·exact .inl h
      ·exact .inr (fx _ h)
     ·intro c' hc';rw[take_snoc hgoal]at hc';rcases bO.mp hc' with h|h
      ·exact fx _ (hc c' h)
      ·exact fb _ h
     ·rw[bd,bd];show 2 * (J2.length-(L'.length+1))+(W2.length+1)<_;omega
   ·rintro σ H4 ⟨L',W2,y,rfl,D4,hh,hc,hm⟩;rw[ap,c9]at hc;exact fin H4 L' W2 _ _ D4 hc hm
  ·rw[ko gW hmem];refine⟨et,rfl,.inr ⟨⟨_,bN.of het3⟩,?_⟩⟩;have hnil:bJ ds (here,a_)=[]:=me fun x hx z=>hmem (by rw[<-z];exact G.all x hx);refine AX (xs:=[]) (fun j σ H'=>σ=[some (.ref g),some (.str room),some (.ref d),some (.ref w),some (.str here),x5]/\H'=H3) ⟨rfl,rfl⟩ (fun j σ H' _ ⟨_,e⟩=>by rw[e];exact bN.of het3) (fun j x σ H' hj=>by cases hj) ?_;rintro σ H' ⟨rfl,rfl⟩;exact fin _ L W' _ _ D3 (by rw[hnil];simp) hm3
 ·have hnil:W=[]:=by
   cases W with
   |nil=>rfl
   |cons a W=>exact absurd (zzr1 (by rw[ap,c6];omega)) hpos
  subst hnil;refine⟨_,rfl,k d L H1 D.d D.nd (fun w=>⟨D.sound w,fun hr=>?_⟩) hd D.same⟩
  induction hr with
  |one h=>exact D.closed room (.inl rfl) (by simp) (fun z=>z) _ (iF.mpr h)
  |step r h ih=>exact D.closed _ (.inr ih) (by simp) (fun z=>z) _ (iF.mpr h)
inductive sp_first_led_round (vs:List V)(H:Hp)(Q:VK)(E:XK):Prop
 |mk (l3 d:Addr) (J2:Zb) (ps:List (Str×Addr)):(vs=[.ref l3,.ref d])->(H l3=some (.lst (J2.map V.str)))->(H d=some (.dK (cL Sum.inr ps)))->(ps.map (·.1)=J2)->(J2.Nodup)->((∀x∈ps,∃L,H x.2=some (.dK (be L))/\x.1∉L))->(∀H',ae H H'->Q .non H')->sp_first_led_round  vs H Q E
theorem jE{K:Za}{vs:List V}{H:Hp}{Q:VK}{E:XK}(h:sp_first_led_round vs H Q E):j3 K (cf Q) (start kG vs) H:=by
 obtain⟨l3,d,J2,ps,rfl,h3,hd,hps,nod,hL,k⟩:=h;refine⟨_,rfl,l3,rfl,⟨_,aA.of h3⟩,?_⟩;refine gH (xs:=J2.map V.str) (fun i σ H'=>∃x y,σ=[some (.ref l3),some (.ref d),x,y]/\ae H H') ⟨_,_,rfl,ae.refl H⟩ (fun i σ H' _ ⟨_,_,_,S⟩=>aA.of (S _ _ h3)) ?_ ?_
 ·rintro i x σ H' t hi ⟨x2,x3,rfl,S⟩ ht;obtain⟨w,hw,rfl⟩:=dF hi;refine⟨t,_,rfl,bN.of aa,rfl,_,_,rfl,_,_,rfl,rfl,?_⟩;have S2:ae H (upd H' t (.tup [.int i,.str w])):=S.trans (ae.new ht);generalize upd H' t (.tup [.int i,.str w])=H2 at S2 ⊢;have hmem:w∈ps.map (·.1):=by rw[hps];exact bU hw
  obtain⟨⟨r,a⟩,hra,er⟩:=aU.mp hmem;obtain rfl:r=w:=er;obtain⟨L,hLa,hn⟩:=hL _ hra;refine⟨_,rfl,_,rfl,_,rfl,d,.ref a,rfl,.inl ⟨_,.inr r,.inl (S2 _ _ hd),rfl,(dO g8 (by rw[hps];exact nod) hra).symm⟩,a,_,rfl,.inl ⟨_,.inr r,.inl (S2 _ _ hLa),rfl,rfl⟩,_,rfl,?_⟩;rw[gF,zzr0 hn];exact bE ⟨_,_,rfl,S2⟩
 ·rintro σ H' ⟨x,y,rfl,S⟩;exact k H' S
abbrev lk(f:Str)(fs:List (Str×V)):Option V:=fs.lookup f
def jF(ds:List ar)(r:Str):Bool:=(bM ds r).all tM
structure dz(C:Addr)(H:Hp)(x:Addr)(J0 J1 J2:Zb)(ds:List ar):Prop where
 at_:∃(dx:Addr) (fs:List (Str×V)) (o1 o2 o3 o4 lv qu sg sl:Addr) (ts:Ze) (lps:List (Str×Addr)) (gps:List ((Str×List Str)×Addr)) (sps:List (Str×Addr)),
  H x=some (.ins C dx fs)/\lk "is_quiet" fs=none/\lk "goals" fs=none/\lk "led_from" fs=none/\lk "rooms" fs=none /\
  lk "own_asks" fs=some (.ref o1)/\lk "own_says" fs=some (.ref o2)/\lk "own_rooms" fs=some (.ref o3)/\lk "own_doors" fs=some (.ref o4) /\
  lk "leaving" fs=some (.ref lv)/\lk "quiet" fs=some (.ref qu)/\lk "sign_goals" fs=some (.ref sg)/\lk "still_led" fs=some (.ref sl) /\
  Lists H o1 o2 o3 o4 ts J0 J1 J2 ds /\
  lps.map (·.1)=J2/\H lv=some (.dK (cL Sum.inr lps))/\(∀x∈lps,∃us,H x.2=some (.lst (us.map V.ref))/\cP H us (bM ds x.1)) /\
  H qu=some (.dK (be (J2.filter (jF ds))))/\gb H sg gps ds /\
  sps.map (·.1)=J2/\H sl=some (.dK (cL Sum.inr sps))/\(∀x∈sps,∃L,H x.2=some (.dK (be L))/\L.Nodup/\∀w,w∈L↔Reach ds x.1 w)
 ok:aI J0 J1 J2 ds
 more:∃(dx:Addr) (fs:List (Str×V)),H x=some (.ins C dx fs)/\lk "asks" fs=none/\lk "says" fs=none/\lk "doors" fs=none/\lk "doors_from" fs=none
theorem eM(f:Str)(v:V):∀fs:List (Str×V),(cp f v fs).length<=fs.length+1
 |[]=>aD _
 | (g,x)::r=>by
  unfold cp;split
  ·exact Nat.le_succ _
  ·rw[c6,c6];have:=eM f v r;omega
theorem og:∀(ps qs:List (Str×Addr)),((qs++ps).map (·.1)).Nodup->gm (cL Sum.inr qs) (cL Sum.inr ps)=cL Sum.inr (qs++ps)
 |[],qs,_=>by rw[i9];rfl
 |p::ps,qs,nd=>by
  show gm (eK (cL Sum.inr qs) (Sum.inr p.1) (.ref p.2)) (cL Sum.inr ps)=_;have e:qs++p::ps=(qs++[p])++ps:=by simp
  rw[e]at nd ⊢;have hnew:p.1∉qs.map (·.1):=by
   rw[aM,aM,ef]at nd;have:=nd.1;rw[ef]at this;intro z;exact this.2.2 _ z _ (by simp) rfl
  rw[tq _ (ko g8 hnew)];have:=og ps (qs++[p]) nd;rw[<-this];have e2:cL (Sum.inr:Str->cG) (qs++[p])=cL Sum.inr qs++[(Sum.inr p.1,V.ref p.2)]:=by
   unfold cL;rw[aM];rfl
  rw[e2]
inductive j_(C:Addr)(vs:List V)(H:Hp)(Q:VK)(E:XK):Prop
 |mk (x dx l1 l2 l3 l4:Addr) (ts:Ze) (J0 J1 J2:Zb) (ds:List ar):(vs=[.ref x,.ref l1,.ref l2,.ref l3,.ref l4])->(H x=some (.ins C dx []))->(Lists H l1 l2 l3 l4 ts J0 J1 J2 ds)->(aI J0 J1 J2 ds)->(∀H',dz C H' x J0 J1 J2 ds->cH x H H'->Q .non H')->j_ C vs H Q E
theorem Lists.exI{H H':Hp}{x C dx:Addr}{fs:List (Str×V)}{l1 l2 l3 l4:Addr}{ts:Ze}{J0 J1 J2:Zb}{ds:List ar}(h:Lists H l1 l2 l3 l4 ts J0 J1 J2 ds)(hx:H x=some (.ins C dx fs))(e:cH x H H'):Lists H' l1 l2 l3 l4 ts J0 J1 J2 ds:=by
 have ne:∀{b:Addr}{xs:List V},H b=some (.lst xs)->b≠x:=fun hb z=>by rw[z,hx]at hb;cases hb
 exact⟨e _ _ h.a1 (ne h.a1),e _ _ h.a2 (ne h.a2),e _ _ h.a3 (ne h.a3),e _ _ h.a4 (ne h.a4),h.ds.kt fun b xs hb=>e _ _ hb fun z=>by rw[z,hx]at hb;cases hb⟩
theorem cH.ktI{H H':Hp}{x C dx:Addr}{fs:List (Str×V)}(e:cH x H H')(hx:H x=some (.ins C dx fs)):vx H H':=fun b xs hb=>e _ _ hb fun z=>by rw[z,hx]at hb;cases hb
theorem cH.neI{H:Hp}{x C dx:Addr}{fs:List (Str×V)}(hx:H x=some (.ins C dx fs)){b:Addr}{xs:List V}(hb:H b=some (.lst xs)):b≠x:=fun z=>by rw[z,hx]at hb;cases hb
theorem zh{H:Hp}{x C dx:Addr}{fs:List (Str×V)}(hx:H x=some (.ins C dx fs)){b:Addr}{kvs:List (cG×V)}(hb:H b=some (.dK kvs)):b≠x:=fun z=>by rw[z,hx]at hb;cases hb
theorem Bw{H:Hp}{x C dx:Addr}{fs:List (Str×V)}(hx:H x=some (.ins C dx fs)){b:Addr}{kvs:List (TK×V)}(hb:H b=some (.dT kvs)):b≠x:=fun z=>by rw[z,hx]at hb;cases hb
structure MC(K:Za)(C:Addr):Prop where
 cls:yk K C
 a1:cN K C "own_asks"
 a2:cN K C "own_says"
 a3:cN K C "own_rooms"
 a4:cN K C "own_doors"
 a5:cN K C "leaving"
 a6:cN K C "quiet"
 a7:cN K C "sign_goals"
 a8:cN K C "still_led"
theorem tR{H:Hp}{x C dx:Addr}{fs:List (Str×V)}(f:Str)(y:V)(hx:H x=some (.ins C dx fs)):∃H',H'=upd H x (.ins C dx (cp f y fs))/\H' x=some (.ins C dx (cp f y fs))/\cH x H H' :=
 ⟨_,rfl,aa,cH.upd _ _ _⟩
theorem mf{p:Str->Bool}{ws:Zb}{i:Nat}{w:Str}(h:ws[i]?=some w):(ws.take (i+1)).filter p=(ws.take i).filter p++(if p w=true then[w]else[]):=by
 rw[take_snoc h,qd];congr 1;by_cases c:p w=true
 ·rw[if_pos c];simp[c]
 ·rw[if_neg c];simp[c]
theorem u6(ds:List ar)(r:Str):(bM ds r).length<=ds.length:=m7 _ _
theorem aI.sg0{J0 J1 J2:Zb}{ds:List ar}(m:aI J0 J1 J2 ds){r:Str}:∀d∈bM ds r,d.sg≠[]:=by
 intro d hd;have:=m.good d (List.mem_filter.mp hd).1;rcases this.sg with⟨w,_,e⟩|⟨w,_,e⟩|e<;>rw[e]<;>exact List.cons_ne_nil _ _
theorem Av{K:Za}{C:Addr}(M:MC K C){vs:List V}{H:Hp}{Q:VK}{E:XK}(h:j_ C vs H Q E):
  jC K sp_need_none sp_first_led_round qW ka (sp_as_keys K) sp_has_asks_alone sp_doors_by_start sp_need_parts (cf Q) (start jT vs) H:=by
 obtain⟨x,dx,l1,l2,l3,l4,ts,J0,J1,J2,ds,rfl,hx,L,m,k⟩:=h;have z3:=m.rooms26;have z4:=m.few;refine⟨_,rfl,_,rfl,_,rfl,_,rfl,l1,l2,l3,l4,ts,J0,J1,J2,ds,rfl,L,m,fun H1 S1=>?_⟩;have hx1:=S1 _ _ hx;have L1:=L.same S1;have E1:cH x H H1:=ae.exB S1;refine⟨_,rfl,.inl ⟨l1,_,rfl,.inl (aA.of L1.a1),fun o1 ho1=>⟨_,rfl,x,C,dx,_,rfl,kp hx1 ho1,M.cls,M.a1,(by show 0<1000;decide),?_⟩⟩⟩;obtain⟨H2,e2,hx2,F2⟩:=tR "own_asks" (.ref o1) (kp (x:=.lst (J0.map V.str)) hx1 ho1);rw[<-e2];have n1:o1≠x:=(ah hx1 ho1).symm;have f1:=F2 _ _ aa n1;have E2:cH x H1 H2:=(cH.new ho1).trans F2;have L2':=L1.exI hx1 E2;have len2:(cp ("own_asks":Str) (.ref o1) []).length<=1:=eM _ _ _;clear e2 F2;refine⟨_,rfl,.inl ⟨l2,_,rfl,.inl (aA.of L2'.a2),fun o2 ho2=>⟨_,rfl,x,C,dx,_,rfl,kp hx2 ho2,M.cls,M.a2,by omega,?_⟩⟩⟩;obtain⟨H3,e3,hx3,F3⟩:=tR "own_says" (.ref o2) (kp (x:=.lst (J1.map V.str)) hx2 ho2);rw[<-e3];have n2:o2≠x:=(ah hx2 ho2).symm;have f2:=F3 _ _ aa n2;have E3:cH x H2 H3:=(cH.new ho2).trans F3;have L3:=L2'.exI hx2 E3;have len3:=eM ("own_says":Str) (.ref o2) (cp ("own_asks":Str) (.ref o1) []);clear e3 F3;refine⟨_,rfl,.inl ⟨l3,_,rfl,.inl (aA.of L3.a3),fun o3 ho3=>⟨_,rfl,x,C,dx,_,rfl,kp hx3 ho3,M.cls,M.a3,by omega,?_⟩⟩⟩;obtain⟨H4,e4,hx4,F4⟩:=tR "own_rooms" (.ref o3) (kp (x:=.lst (J2.map V.str)) hx3 ho3);rw[<-e4];have n3:o3≠x:=(ah hx3 ho3).symm;have f3:=F4 _ _ aa n3;have E4:cH x H3 H4:=(cH.new ho3).trans F4;have L4:=L3.exI hx3 E4;have len4:=eM ("own_rooms":Str) (.ref o3) (cp ("own_says":Str) (.ref o2) (cp ("own_asks":Str) (.ref o1) []));clear e4 F4;refine⟨_,rfl,.inl ⟨l4,_,rfl,.inl (aA.of L4.a4),fun o4 ho4=>⟨_,rfl,x,C,dx,_,rfl,kp hx4 ho4,M.cls,M.a4,by omega,?_⟩⟩⟩;obtain⟨H5,e5,hx5,F5⟩:=tR "own_doors" (.ref o4) (kp (x:=.lst (ts.map V.ref)) hx4 ho4);rw[<-e5];have n4:o4≠x:=(ah hx4 ho4).symm;have f4:=F5 _ _ aa n4;have E5:cH x H4 H5:=(cH.new ho4).trans F5;have L5:=L4.exI hx4 E5;generalize hfs4:cp ("own_doors":Str) (.ref o4) (cp ("own_rooms":Str) (.ref o3) (cp ("own_says":Str) (.ref o2) (cp ("own_asks":Str) (.ref o1) [])))=fs4 at hx5;have len5:fs4.length<=4:=by
  rw[<-hfs4];have:=eM ("own_doors":Str) (.ref o4) (cp ("own_rooms":Str) (.ref o3) (cp ("own_says":Str) (.ref o2) (cp ("own_asks":Str) (.ref o1) [])));omega
 clear e5 F5;refine⟨_,rfl,_,rfl,l3,l4,ts,J2,ds,rfl,L5.a3,L5.a4,L5.ds,m.okR.1,by omega,by omega,fun d hd=>(m.good d hd).a,fun lv lps H6' hlps flv' hlv' S6=>⟨_,rfl,x,C,dx,fs4,rfl,S6 _ _ hx5,M.cls,M.a5,by omega,?_⟩⟩;obtain⟨H6,e6,hx6,F6⟩:=tR "leaving" (.ref lv) (S6 _ _ hx5);rw[<-e6];have E6:cH x H5 H6:=(ae.exB S6).trans F6;have L6:=L5.exI hx5 E6;have flv:=F6 _ _ flv' (zh (S6 _ _ hx5) flv');have hlv:∀y∈lps,∃us,H6 y.2=some (.lst (us.map V.ref))/\cP H6 us (bM ds y.1):=fun y hy=>by
  obtain⟨us,g1,g2⟩:=hlv' y hy;exact⟨us,F6 _ _ g1 (cH.neI (S6 _ _ hx5) g1),g2.kt (F6.ktI (S6 _ _ hx5))⟩
 have ndl:(lps.map (·.1)).Nodup:=by rw[hlps];exact m.okR.1
 have len6:=eM ("leaving":Str) (.ref lv) fs4;have lk5:lk "leaving" (cp ("leaving":Str) (.ref lv) fs4)=some (.ref lv):=by
  show ii _ _=_;rw[dC,if_pos rfl]
 clear e6 F6 flv' hlv';refine⟨_,rfl,l3,rfl,⟨_,aA.of L6.a3⟩,fun f hf=>?_⟩;refine em (xs:=J2.map V.str) (fun i vs H'=>vs=((J2.take i).filter (jF ds)).map V.str/\ae H6 H'/\H' f=some (.lst vs)) ⟨rfl,ae.new hf,aa⟩ (fun i vs H' _ ⟨_,S,h'⟩=>⟨h',aA.of (S _ _ L6.a3)⟩) ?_ ?_;rotate_left
 ·rintro i vs H' x' hx' hi ⟨rfl,S,f'⟩;obtain⟨r,hr,rfl⟩:=dF hx';obtain⟨⟨r',a⟩,hra,er⟩:=aU.mp (show r∈lps.map (·.1) by rw[hlps];exact bU hr);obtain rfl:r'=r:=er;obtain⟨us,hus,hdo⟩:=hlv _ hra;refine gN ?_;refine⟨_,rfl,x,C,dx,_,.ref lv,rfl,S _ _ hx6,M.cls,M.a5,lk5,_,rfl,lv,.ref a,rfl,.inl ⟨_,.inr r',.inl (S _ _ flv),rfl,(dO g8 ndl hra).symm⟩,a,us,bM ds r',rfl,S _ _ hus,hdo.kt (ae.kt S),bF (u6 _ _) (by omega),m.sg0,fun H'' S''=>⟨_,rfl,?_⟩⟩;have hlen:(((J2.take i).filter (jF ds)).map V.str).length<aj:=by
   rw[ap];refine bc (bF (m7 _ _) ?_);rw[bf];omega
  refine pb (fun hq=>?_) (fun hq=>?_)
  ·refine⟨_,rfl,S'' _ _ f',hlen,xG hi ⟨?_,?_,aa⟩⟩
   ·rw[mf hr,if_pos (show jF ds r'=true from hq),aM];rfl
   ·intro b o q;rw[ai (ah q hf)];exact S'' _ _ (S _ _ q)
  ·refine xG hi ⟨?_,S.trans S'',?_⟩
   ·rw[mf hr,if_neg (show ¬jF ds r'=true from hq),i9]
   ·exact S'' _ _ f'
 rintro vs H7' ⟨rfl,S7,f7⟩;rw[ap,c9]at f7;refine lH (ws:=J2.filter (jF ds)) (aA.of f7) (bF (m7 _ _) (by omega)) fun qu hqu=>⟨_,rfl,x,C,dx,_,rfl,kp (S7 _ _ hx6) hqu,M.cls,M.a6,by omega,?_⟩;obtain⟨H7,e7,hx7,F7⟩:=tR "quiet" (.ref qu) (kp (x:=.dK (be (J2.filter (jF ds)))) (S7 _ _ hx6) hqu);rw[<-e7];have n7:qu≠x:=(ah (S7 _ _ hx6) hqu).symm;have fqu:=F7 _ _ aa n7;have E7:cH x H6 H7:=((ae.exB S7).trans (cH.new hqu)).trans F7;have L7:=L6.exI hx6 E7;have len7:=eM ("quiet":Str) (.ref qu) (cp ("leaving":Str) (.ref lv) fs4);clear e7 F7;refine⟨_,rfl,l4,ts,ds,rfl,L7.a4,L7.ds,by omega,fun sg gps H8' G' S8=>⟨_,rfl,x,C,dx,_,rfl,S8 _ _ hx7,M.cls,M.a7,by omega,?_⟩⟩;obtain⟨H8,e8,hx8,F8⟩:=tR "sign_goals" (.ref sg) (S8 _ _ hx7);rw[<-e8];have E8:cH x H7 H8:=(ae.exB S8).trans F8;have L8:=L7.exI hx7 E8;have G8:gb H8 sg gps ds:=⟨G'.nd,F8 _ _ G'.g (Bw (S8 _ _ hx7) G'.g),fun y hy=>F8 _ _ (G'.ls y hy) (cH.neI (S8 _ _ hx7) (G'.ls y hy)),G'.all⟩;have len8:=eM ("sign_goals":Str) (.ref sg) (cp ("quiet":Str) (.ref qu) (cp ("leaving":Str) (.ref lv) fs4));have lk7:lk "sign_goals" (cp ("sign_goals":Str) (.ref sg) (cp ("quiet":Str) (.ref qu) (cp ("leaving":Str) (.ref lv) fs4)))=some (.ref sg):=by
  show ii _ _=_;rw[dC,if_pos rfl]
 clear e8 F8 G';refine⟨_,rfl,l3,rfl,⟨_,aA.of L8.a3⟩,fun f2' hf2=>?_⟩;refine em (xs:=J2.map V.str) (fun i vs H'=>∃(us:Ze) (pl:List (Str×Addr)),vs=us.map V.ref/\Paired (fun t (p:Str×Addr)=>H' t=some (.tup [.str p.1,.ref p.2])) us pl/\pl.map (·.1)=J2.take i/\(∀p∈pl,∃L,H' p.2=some (.dK (be L))/\L.Nodup/\∀w,w∈L↔Reach ds p.1 w)/\ae H8 H'/\H' f2'=some (.lst vs))
  ⟨[],[],rfl,.nil,rfl,by simp,ae.new hf2,aa⟩ (fun i vs H' _ ⟨_,_,_,_,_,_,S,h'⟩=>⟨h',aA.of (S _ _ L8.a3)⟩) ?_ ?_
 rotate_left
 ·rintro i vs H' x' hx' hi ⟨us,pl,rfl,hpa,hpl,hle,S,f'⟩;obtain⟨r,hr,rfl⟩:=dF hx';have hilen:us.length<=150:=by
   rw[Paired.length hpa,<-ap (f:=(·.1)) (as:=pl),hpl,bf];omega
  refine gN (qH ?_);refine⟨_,rfl,_,rfl,x,C,dx,_,.ref sg,rfl,S _ _ hx8,M.cls,M.a7,lk7,_,rfl,sg,r,gps,ds,J2,rfl,G8.same S,fun d hd=>(m.good d hd).b,by omega,fun ld Lr H'' hld nd hLr hfr S''=>⟨(by show 2<=aj;decide),fun t ht=>⟨?_,?_,xG hi ⟨us++[t],pl++[(r,ld)],?_,?_,?_,?_,?_,aa⟩⟩⟩⟩
  ·exact kp (S'' _ _ f') ht
  ·rw[ap];exact bc (by omega)
  ·rw[aM];rfl
  ·have KT:vx (upd H'' t (.tup [.str r,.ref ld])) (upd (upd H'' t (.tup [.str r,.ref ld])) f2' (.lst (us.map V.ref++[.ref t]))):=jJ (kp (S'' _ _ f') ht);exact Paired.app (Paired.mapP hpa fun t' p' e=>KT _ _ (kp (S'' _ _ e) ht)) (.cons (KT _ _ aa) .nil)
  ·rw[aM,hpl,take_snoc hr];rfl
  ·have ned:∀{b:Addr}{kvs:List (cG×V)},upd H'' t (.tup [.str r,.ref ld]) b=some (.dK kvs)->b≠f2':=fun hb z=>by rw[z,kp (S'' _ _ f') ht]at hb;cases hb
   intro p hp;rcases bO.mp hp with hp|hp
   ·obtain⟨L0,g1,g2⟩:=hle p hp;refine⟨L0,?_,g2⟩;have:=kp (x:=.tup [.str r,.ref ld]) (S'' _ _ g1) ht;rw[ai (ned this)];exact this
   ·have:p=(r,ld):=by simpa using hp
    subst this;refine⟨Lr,?_,nd,hLr⟩;have:=kp (x:=.tup [.str r,.ref ld]) hld ht;rw[ai (ned this)];exact this
  ·intro b o q;rw[ai (ah q hf2)];exact kp (S'' _ _ (S _ _ q)) ht
 rintro vs H9' ⟨us,sps,rfl,hpa,hsps,hled,S9,f9⟩;rw[ap,c9]at hsps;have nds:(sps.map (·.1)).Nodup:=by rw[hsps];exact m.okR.1
 refine⟨f2',us,cL Sum.inr sps,rfl,aA.of f9,?_,?_,fun sl hsl=>⟨_,rfl,x,C,dx,_,rfl,kp (S9 _ _ hx8) hsl,M.cls,M.a8,by omega,?_⟩⟩
 ·rw[Paired.length hpa];unfold cL;rw[ap]
 ·intro j t kv hj hkv;obtain⟨p,hp,e⟩:=Paired.getL hpa hj;unfold cL at hkv;rw[cA,hp]at hkv;have:=c7 hkv;rw[<-this];exact e
 have emerge:gm [] (cL Sum.inr sps)=cL Sum.inr sps:=og sps [] nds;rw[emerge];obtain⟨H9,e9,hx9,F9⟩:=tR "still_led" (.ref sl) (kp (x:=.dK (cL Sum.inr sps)) (S9 _ _ hx8) hsl);rw[<-e9];have n9:sl≠x:=(ah (S9 _ _ hx8) hsl).symm;have fsl:=F9 _ _ aa n9;have E9:cH x H8 H9:=((ae.exB S9).trans (cH.new hsl)).trans F9;have L9:=L8.exI hx8 E9;have hled9:∀p∈sps,∃L,H9 p.2=some (.dK (be L))/\L.Nodup/\∀w,w∈L↔Reach ds p.1 w:=fun p hp=>by
  obtain⟨L0,g1,g2⟩:=hled p hp;have g3:=kp (x:=.dK (cL Sum.inr sps)) g1 hsl;exact⟨L0,F9 _ _ g3 (zh (kp (S9 _ _ hx8) hsl) g3),g2⟩
 clear e9 F9;have lk8:lk "still_led" (cp ("still_led":Str) (.ref sl) (cp ("sign_goals":Str) (.ref sg) (cp ("quiet":Str) (.ref qu) (cp ("leaving":Str) (.ref lv) fs4))))=some (.ref sl):=by
  show ii _ _=_;rw[dC,if_pos rfl]
 refine⟨_,rfl,_,rfl,x,C,dx,_,.ref sl,rfl,hx9,M.cls,M.a8,lk8,l3,sl,J2,sps,rfl,L9.a3,fsl,hsps,m.okR.1,fun p hp=>?_,fun H10 S10=>⟨_,rfl,k H10 ?_ ?_⟩⟩
 ·obtain⟨L0,g1,g2,g3⟩:=hled9 p hp;exact⟨L0,g1,fun z=>m.noround _ ((g3 _).mp z)⟩
 ·have X69:cH x H6 H9:=(E7.trans E8).trans E9;have X59:=((E6.trans E7).trans E8).trans E9;have Y:∀{b:Addr}{o:HO},H9 b=some o->H10 b=some o:=fun h=>S10 _ _ h;have LL:Lists H5 o1 o2 o3 o4 ts J0 J1 J2 ds:=⟨(E3.trans (E4.trans E5)) _ _ f1 n1,(E4.trans E5) _ _ f2 n2,E5 _ _ f3 n3,f4,L5.ds⟩;refine⟨⟨dx,_,o1,o2,o3,o4,lv,qu,sg,sl,ts,lps,gps,sps,Y hx9,?_,?_,?_,?_,?_,?_,?_,?_,?_,?_,?_,lk8,(LL.exI hx5 X59).same S10,hlps,?_,?_,?_,?_,hsps,Y fsl,fun p hp=>?_⟩,m,⟨dx,_,Y hx9,?_,?_,?_,?_⟩⟩
  rotate_right 9
  ·exact Y (X69 _ _ flv (zh hx6 flv))
  ·intro y hy;obtain⟨us',g1,g2⟩:=hlv y hy;exact⟨us',Y (X69 _ _ g1 (cH.neI hx6 g1)),(g2.kt (X69.ktI hx6)).kt (ae.kt S10)⟩
  ·exact Y ((E8.trans E9) _ _ fqu n7)
  ·exact gb.same ⟨G8.nd,E9 _ _ G8.g (Bw hx8 G8.g),fun y hy=>E9 _ _ (G8.ls y hy) (cH.neI hx8 (G8.ls y hy)),G8.all⟩ S10
  ·obtain⟨L0,g1,g2⟩:=hled9 p hp;exact⟨L0,Y g1,g2⟩
  all_goals(show ii _ _=_;subst hfs4;repeat (rw[dC];first|rw[if_pos rfl] | rw[if_neg (by decide +kernel)]))
  all_goals rfl
 ·exact((((((((E1.trans E2).trans E3).trans E4).trans E5).trans E6).trans E7).trans E8).trans E9).trans (ae.exB S10)
theorem dz.by{C:Addr}{H H':Hp}{x:Addr}{J0 J1 J2:Zb}{ds:List ar}(h:dz C H x J0 J1 J2 ds)
  (hs:∀b ws,H b=some (.lst (List.map V.str ws))->H' b=some (.lst (List.map V.str ws))) (hr:∀b ts,H b=some (.lst (List.map V.ref ts))->H' b=some (.lst (List.map V.ref ts))) (ht:vx H H')
  (hd:∀b kvs,H b=some (.dK kvs)->H' b=some (.dK kvs)) (hT:∀b kvs,H b=some (.dT kvs)->H' b=some (.dT kvs)) (hi:∀b C dx fs,H b=some (.ins C dx fs)->H' b=some (.ins C dx fs)):dz C H' x J0 J1 J2 ds:=by
 obtain⟨dx,fs,o1,o2,o3,o4,lv,qu,sg,sl,ts,lps,gps,sps,g1,a1,a2,a3,a4,b1,b2,b3,b4,b5,b6,b7,b8,L,c1,c2,c3,c4,G,d1,d2,d3⟩:=h.at_;refine⟨⟨dx,fs,o1,o2,o3,o4,lv,qu,sg,sl,ts,lps,gps,sps,hi _ _ _ _ g1,a1,a2,a3,a4,b1,b2,b3,b4,b5,b6,b7,b8,⟨hs _ _ L.a1,hs _ _ L.a2,hs _ _ L.a3,hr _ _ L.a4,L.ds.kt ht⟩,c1,hd _ _ c2,fun y hy=>?_,hd _ _ c4,⟨G.nd,hT _ _ G.g,fun y hy=>hs _ _ (G.ls y hy),G.all⟩,d1,hd _ _ d2,fun y hy=>?_⟩,h.ok,by obtain⟨dx,fs,g,r⟩:=h.more;exact⟨dx,fs,hi _ _ _ _ g,r⟩⟩
 ·obtain⟨us,e1,e2⟩:=c3 y hy;exact⟨us,hr _ _ e1,e2.kt ht⟩
 ·obtain⟨L0,e1,e2⟩:=d3 y hy;exact⟨L0,hd _ _ e1,e2⟩
theorem dz.same{C:Addr}{H H':Hp}{x:Addr}{J0 J1 J2:Zb}{ds:List ar}(h:dz C H x J0 J1 J2 ds)(S:ae H H'):dz C H' x J0 J1 J2 ds :=
 h.by (fun _ _ e=>S _ _ e) (fun _ _ e=>S _ _ e) (ae.kt S) (fun _ _ e=>S _ _ e) (fun _ _ e=>S _ _ e) (fun _ _ _ _ e=>S _ _ e)
inductive gV(C:Addr)(vs:List V)(H:Hp)(Q:VK)(E:XK):Prop
 |mk (t l1 l2 l3 l4:Addr) (ts:Ze) (J0 J1 J2:Zb) (ds:List ar):(vs=[.ref t])->(oI H t l1 l2 l3 l4 ts J0 J1 J2 ds)->(aI J0 J1 J2 ds)->(∀(x:Addr) (H':Hp),dz C H' x J0 J1 J2 ds->ae H H'->Q (.ref x) H')->gV C vs H Q E
theorem uM{K:Za}{C:Addr}{vs:List V}{H:Hp}{Q:VK}{E:XK}(h:gV C vs H Q E):oX K C (j_ C) (cf Q) (start pj vs) H:=by
 obtain⟨t,l1,l2,l3,l4,ts,J0,J1,J2,ds,rfl,T,m,k⟩:=h;refine⟨_,rfl,.inr (.inl ⟨t,_,0,_,rfl,rfl,bN.of T.t,rfl,.inl ⟨l1,_,rfl,.inl (aA.of T.a1),fun m1 h1=>?_⟩⟩)⟩;have T1:=T.same (ae.new (o:=.lst (J0.map V.str)) h1);refine⟨_,rfl,.inr (.inl ⟨t,_,1,_,rfl,rfl,bN.of T1.t,rfl,.inl ⟨l2,_,rfl,.inl (aA.of T1.a2),fun m2 h2=>?_⟩⟩)⟩;have T2:=T1.same (ae.new (o:=.lst (J1.map V.str)) h2);refine⟨_,rfl,.inr (.inl ⟨t,_,2,_,rfl,rfl,bN.of T2.t,rfl,.inl ⟨l3,_,rfl,.inl (aA.of T2.a3),fun m3 h3=>?_⟩⟩)⟩;have T3:=T2.same (ae.new (o:=.lst (J2.map V.str)) h3);refine⟨_,rfl,.inr (.inl ⟨t,_,3,_,rfl,rfl,bN.of T3.t,rfl,.inl ⟨l4,_,rfl,.inl (aA.of T3.a4),fun m4 h4=>?_⟩⟩)⟩;have T4:=T3.same (ae.new (o:=.lst (ts.map V.ref)) h4);have S4:=(((ae.new (o:=.lst (J0.map V.str)) h1).trans (ae.new (o:=.lst (J1.map V.str)) h2)).trans (ae.new (o:=.lst (J2.map V.str)) h3)).trans (ae.new (o:=.lst (ts.map V.ref)) h4);refine fun x dx hx hdx hne=>?_;have S5:ae H (upd (upd (upd (upd (upd (upd H m1 (.lst (J0.map V.str))) m2 (.lst (J1.map V.str))) m3 (.lst (J2.map V.str))) m4 (.lst (ts.map V.ref))) dx (.own x)) x (.ins C dx [])) :=
  (S4.trans (ae.new hdx)).trans (ae.new (by rw[ai hne.symm];exact hx))
 have hxx:upd (upd (upd (upd (upd H m1 (.lst (J0.map V.str))) m2 (.lst (J1.map V.str))) m3 (.lst (J2.map V.str))) m4 (.lst (ts.map V.ref))) dx (.own x) x=none:=by rw[ai hne.symm];exact hx
 refine⟨x,dx,m1,m2,m3,m4,ts,J0,J1,J2,ds,rfl,aa,⟨?_,?_,?_,?_,T.ds.kt (ae.kt S5)⟩,m,fun H' M ex=>⟨rfl,k x H' M fun b o q=>?_⟩⟩
 ·exact kp (kp (kp (kp (kp aa h2) h3) h4) hdx) hxx
 ·exact kp (kp (kp (kp aa h3) h4) hdx) hxx
 ·exact kp (kp (kp aa h4) hdx) hxx
 ·exact kp (kp aa hdx) hxx
 ·have hq:=S5 _ _ q;exact ex _ _ hq (ah (S4.trans (ae.new hdx) _ _ q) hxx)
def mq(K:Za):TS :=
 bt (de (cJ K) (aF (sT K V0 "own_rooms")))
def mG:List Str:=["self"]
inductive gC(C:Addr)(vs:List V)(H:Hp)(Q:VK)(E:XK):Prop
 |mk (x:Addr) (J0 J1 J2:Zb) (ds:List ar):(vs=[.ref x])->(dz C H x J0 J1 J2 ds)->(∀l,H l=none->Q (.ref l) (upd H l (.lst (J2.map V.str))))->gC C vs H Q E
theorem yP{K:Za}{C:Addr}(M:MC K C){vs:List V}{H:Hp}{Q:VK}{E:XK}(h:gC C vs H Q E):mq K (cf Q) (start mG vs) H:=by
 obtain⟨x,J0,J1,J2,ds,rfl,h,k⟩:=h;obtain⟨dx,fs,o1,o2,o3,o4,lv,qu,sg,sl,ts,lps,gps,sps,g1,a1,a2,a3,a4,b1,b2,b3,b4,b5,b6,b7,b8,L,_⟩:=h.at_;exact⟨_,rfl,x,C,dx,fs,.ref o3,rfl,g1,M.cls,M.a3,b3,.inl ⟨o3,_,rfl,.inl (aA.of L.a3),k⟩⟩
theorem bN.same{K:Za}{H H':Hp}{a:Addr}{xs:List V}(S:ae H H')(h:bN K H a xs):bN K H' a xs:=by
 rcases h with(h|⟨o,h⟩)|h
 ·exact .inl (.inl (S _ _ h))
 ·exact .inl (.inr ⟨o,S _ _ h⟩)
 ·exact .inr h
theorem aA.same{K:Za}{H H':Hp}{a:Addr}{xs:List V}(S:ae H H')(h:aA K H a xs):aA K H' a xs:=by
 rcases h with(h|⟨o,h⟩)|h
 ·exact .inl (.inl (S _ _ h))
 ·exact .inl (.inr ⟨o,S _ _ h⟩)
 ·exact .inr h
mutual
theorem iO.same{K:Za}{H H':Hp}(S:ae H H'):∀{d:DT}{v:V},iO K H d v->iO K H' d v
 |.k a,v,h=>by unfold iO at h ⊢;exact h
 |.t l,v,h=>by
  unfold iO at h ⊢;obtain⟨b,xs,e,q,r⟩:=h;exact⟨b,xs,e,bN.same S q,DIns.same S r⟩
 |.s l,v,h=>by
  unfold iO at h ⊢;obtain⟨b,xs,e,q,r⟩:=h;exact⟨b,xs,e,aA.same S q,DIns.same S r⟩
theorem DIns.same{K:Za}{H H':Hp}(S:ae H H'):∀{ds:List DT}{vs:List V},DIns K H ds vs->DIns K H' ds vs
 |[],vs,h=>by unfold DIns at h ⊢;exact h
 |d::ds,vs,h=>by
  unfold DIns at h ⊢;obtain⟨v,us,e,q,r⟩:=h;exact⟨v,us,e,iO.same S q,DIns.same S r⟩
end
theorem oq{n:Nat}:∀{ds:List DT}{i:Nat}{d:DT},DT.depths ds<=n->ds[i]?=some d->d.depth<=n
 |[],i,d,_,e=>by simp at e
 |x::ds,i,d,h,e=>by
  have h':max (DT.depth x) (DT.depths ds)<=n:=h;cases i with
  |zero=>simp at e;subst e;omega
  |succ i=>simp at e;exact oq (by omega) e
open Classical in
theorem zR(xs:List V)(k:Nat):dD xs none (some (k:Int))=xs.take k:=by
 unfold dD;rw[HT.sIx_none,HT.sIx_nat,kO,qi,List.take_eq_take_iff];omega
theorem vj(xs:List V)(k:Nat):dD xs (some (k:Int)) none=xs.drop k:=by
 unfold dD;rw[HT.sIx_none,HT.sIx_nat,qe (by rw[eU];omega)];by_cases h:k<=xs.length
 ·rw[Nat.min_eq_left h]
 ·rw[Nat.min_eq_right (by omega),kM (by simp),kM (by omega)]
def nK(K:Za):TS :=
 bt (de (cJ K) (aF (sT K V0 "own_asks")))
def oO:List Str:=["self"]
def nJ(K:Za):TS :=
 bt (de (cJ K) (aF (sT K V0 "own_says")))
def oM:List Str:=["self"]
theorem yI{C x:Addr}{H:Hp}{J0 J1 J2:Zb}{ds:List ar}(h:dz C H x J0 J1 J2 ds):∃(dx:Addr) (fs:List (Str×V)) (o1 o2 lv:Addr) (lps:List (Str×Addr)),H x=some (.ins C dx fs)/\lk "asks" fs=none/\lk "says" fs=none/\lk "doors_from" fs=none/\lk "is_quiet" fs=none/\lk "own_asks" fs=some (.ref o1)/\lk "own_says" fs=some (.ref o2)/\lk "leaving" fs=some (.ref lv) /\
  H o1=some (.lst (J0.map V.str))/\H o2=some (.lst (J1.map V.str))/\lps.map (·.1)=J2/\H lv=some (.dK (cL Sum.inr lps))/\(∀x∈lps,∃us,H x.2=some (.lst (us.map V.ref))/\cP H us (bM ds x.1)):=by
 obtain⟨dx,fs,o1,o2,o3,o4,lv,qu,sg,sl,ts,lps,gps,sps,g1,a1,a2,a3,a4,b1,b2,b3,b4,b5,b6,b7,b8,L,c1,c2,c3,c4,G,d1,d2,d3⟩:=h.at_;obtain⟨dx',fs',g1',e1,e2,e3,e4⟩:=h.more;rw[g1]at g1';cases g1';exact⟨dx,fs,o1,o2,lv,lps,g1,e1,e2,e4,a1,b1,b2,b5,L.a1,L.a2,c1,c2,c3⟩
inductive iY(C:Addr)(vs:List V)(H:Hp)(Q:VK)(E:XK):Prop
 |mk (x:Addr) (J0 J1 J2:Zb) (ds:List ar):(vs=[.ref x])->(dz C H x J0 J1 J2 ds)->(∀l,H l=none->Q (.ref l) (upd H l (.lst (J0.map V.str))))->iY C vs H Q E
theorem Aw{K:Za}{C:Addr}(M:MC K C){vs:List V}{H:Hp}{Q:VK}{E:XK}(h:iY C vs H Q E):nK K (cf Q) (start oO vs) H:=by
 obtain⟨x,J0,J1,J2,ds,rfl,h,k⟩:=h;obtain⟨dx,fs,o1,o2,lv,lps,g1,a1,a2,a3,a4,b1,b2,b3,c1,c2,_⟩:=yI h;exact⟨_,rfl,x,C,dx,fs,.ref o1,rfl,g1,M.cls,M.a1,b1,.inl ⟨o1,_,rfl,.inl (aA.of c1),k⟩⟩
inductive iT(C:Addr)(vs:List V)(H:Hp)(Q:VK)(E:XK):Prop
 |mk (x:Addr) (J0 J1 J2:Zb) (ds:List ar):(vs=[.ref x])->(dz C H x J0 J1 J2 ds)->(∀l,H l=none->Q (.ref l) (upd H l (.lst (J1.map V.str))))->iT C vs H Q E
theorem As{K:Za}{C:Addr}(M:MC K C){vs:List V}{H:Hp}{Q:VK}{E:XK}(h:iT C vs H Q E):nJ K (cf Q) (start oM vs) H:=by
 obtain⟨x,J0,J1,J2,ds,rfl,h,k⟩:=h;obtain⟨dx,fs,o1,o2,lv,lps,g1,a1,a2,a3,a4,b1,b2,b3,c1,c2,_⟩:=yI h;exact⟨_,rfl,x,C,dx,fs,.ref o2,rfl,g1,M.cls,M.a2,b2,.inl ⟨o2,_,rfl,.inl (aA.of c2),k⟩⟩
inductive iU (vs:List V)(H:Hp)(Q:VK)(E:XK):Prop
 |mk (p c:Addr) (most full:Int):(vs=[.ref p,.int most,.int full])->(eZ H p c)->(0<most)->(most<=25)->(0<=full)->(full<=2)->(∀(t l1 l2 l3 l4:Addr) (ts:Ze) (J0 J1 J2:Zb) (ds:List ar) (H':Hp),oI H' t l1 l2 l3 l4 ts J0 J1 J2 ds->aI J0 J1 J2 ds->J2.length<=most.toNat->ds.length<=600->eZ H' p c->cH p H H'->H l4=none->Q (.ref t) H')->iU  vs H Q E
theorem xy{K:Za}{vs:List V}{H:Hp}{Q:VK}{E:XK}(h:iU vs H Q E):sS K eD j8 fU qY (cf Q) (start ua vs) H:=by
 obtain⟨p,c,most,full,rfl,hp,m0,m1,f0,f2,k⟩:=h;refine⟨_,rfl,p,c,rfl,hp,fun H1 hp1 ex1=>?_⟩;refine⟨_,rfl,p,c,8,rfl,hp1,by decide,fun lw ws H2 ok len fr hl hp2 ex2=>?_⟩;have e2:=ex1.trans ex2;have nw:=hp2.ne_strs hl;refine⟨_,rfl,(by show 6<=aj;decide),fun q hq=>⟨_,rfl,eV (hp2.ex (ae.new hq)) (by decide) (by decide) fun r H3 r0 r1 hp3 ex3=>?_⟩⟩;obtain⟨n,hn,n3⟩:=at6 r0 r1;have hl3:H3 lw=some (.lst (ws.map V.str)):=ex3 _ _ (kp hl hq) nw;refine⟨q,_,_,_,rfl,rfl,aA.of (ex3 _ _ aa (hp2.nep hq).symm),hn,_,_,rfl,rfl,_,rfl,lw,_,rfl,aA.of hl3,fun l1 hl1=>?_⟩;have ea:dD (ws.map V.str) none (some (1+(n:Int)))=(ws.take (1+n)).map V.str:=wL ws (1+n);rw[ea];have e3:cH p H H3:=e2.trans ((cH.new hq).trans ex3);have hp4:eZ (upd H3 l1 (.lst ((ws.take (1+n)).map V.str))) p c:=hp3.ex (ae.new hl1);have e4:cH p H (upd H3 l1 (.lst ((ws.take (1+n)).map V.str))):=e3.trans (cH.new hl1);have hl4:upd H3 l1 (.lst ((ws.take (1+n)).map V.str)) lw=some (.lst (ws.map V.str)):=kp hl3 hl1;have ha4:upd H3 l1 (.lst ((ws.take (1+n)).map V.str)) l1=some (.lst ((ws.take (1+n)).map V.str)):=aa;generalize upd H3 l1 (.lst ((ws.take (1+n)).map V.str))=H4 at hp4 e4 hl4 ha4 ⊢;refine⟨_,rfl,_,rfl,(by show 6<=aj;decide),fun q hq=>⟨_,rfl,eV (hp4.ex (ae.new hq)) (by decide) (by decide) fun r H5 r0 r1 hp5 ex5=>?_⟩⟩;obtain⟨m,hm,m3⟩:=at6 r0 r1;have hl5:H5 lw=some (.lst (ws.map V.str)):=ex5 _ _ (kp hl4 hq) nw;have ha5:H5 l1=some (.lst ((ws.take (1+n)).map V.str)):=ex5 _ _ (kp ha4 hq) (hp4.ne_strs ha4);refine⟨q,_,_,_,rfl,rfl,aA.of (ex5 _ _ aa (hp4.nep hq).symm),hm,_,_,rfl,rfl,_,rfl,lw,_,rfl,aA.of hl5,fun l2 hl2=>?_⟩;rw[zS len m3];have e5:cH p H H5:=e4.trans ((cH.new hq).trans ex5);have hp6:eZ (upd H5 l2 (.lst (((ws.drop 4).take (1+m)).map V.str))) p c:=hp5.ex (ae.new hl2);have e6:cH p H (upd H5 l2 (.lst (((ws.drop 4).take (1+m)).map V.str))):=e5.trans (cH.new hl2);have ha6:upd H5 l2 (.lst (((ws.drop 4).take (1+m)).map V.str)) l1=some (.lst ((ws.take (1+n)).map V.str)):=kp ha5 hl2;have hb6:upd H5 l2 (.lst (((ws.drop 4).take (1+m)).map V.str)) l2=some (.lst (((ws.drop 4).take (1+m)).map V.str)):=aa;generalize upd H5 l2 (.lst (((ws.drop 4).take (1+m)).map V.str))=H6 at hp6 e6 ha6 hb6 ⊢;refine⟨_,rfl,_,rfl,_,rfl,eV hp6 m0 (by omega) fun r H7 r0 r1 hp7 ex7=>?_⟩;obtain⟨rn,rfl⟩:=jq r0;have ha7:=ex7 _ _ ha6 (hp6.ne_strs ha6);have hb7:=ex7 _ _ hb6 (hp6.ne_strs hb6);refine⟨_,_,rfl,rfl,p,c,1+rn,rfl,hp7,by omega,fun l3 J2 H8 okr lenr fr3 hl3' hp8 ex8=>?_⟩;have ha8:=ex8 _ _ ha7 (hp7.ne_strs ha7);have hb8:=ex8 _ _ hb7 (hp7.ne_strs hb7);have hs0:(ws.drop 4).take (1+m)≠[]:=by
  intro z;have:=congrArg List.length z;rw[bf,eU,len]at this;simp at this
 have ha0:ws.take (1+n)≠[]:=by
  intro z;have:=congrArg List.length z;rw[bf,len]at this;simp at this
 have hr0:J2≠[]:=by
  intro z;rw[z]at lenr;simp at lenr;omega
 refine⟨_,rfl,_,rfl,_,rfl,_,rfl,_,rfl,p,c,l1,l2,l3,_,_,J2,full,rfl,hp8,ha8,hb8,hl3',by rw[bf];omega,hs0,by rw[bf];omega,hr0,by omega,f0,f2,fun l4 ts ds up H9 fr4 hl4' hds nod good few hp9 ex9=>?_⟩;have ha9:=ex9 _ _ ha8 (hp8.ne_strs ha8);have hb9:=ex9 _ _ hb8 (hp8.ne_strs hb8);have hc9:=ex9 _ _ hl3' (hp8.ne_strs hl3');refine⟨_,rfl,_,rfl,_,rfl,_,rfl,(by show 4<=aj;decide),fun t ht=>k t l1 l2 l3 l4 ts _ _ J2 ds _ ⟨aa,kp ha9 ht,kp hb9 ht,kp hc9 ht,kp hl4' ht,hds.kt (ae.kt (ae.new ht))⟩ ?_ ?_ few (hp9.ex (ae.new ht)) ?_ ?_⟩
 ·refine⟨⟨?_,fun w h=>ok.2 w (eS h)⟩,⟨?_,fun w h=>ok.2 w (List.mem_of_mem_drop (eS h))⟩,?_,okr,ha0,hs0,hr0,by rw[bf];omega,by rw[bf];omega,by omega,nod,fun d hd=>(good d hd).d,by omega,fun r z=>(yr okr.1 good z).irr okr.1⟩
  ·exact ok.1.sublist (List.take_sublist _ _)
  ·exact ok.1.sublist ((List.take_sublist _ _).trans (List.drop_sublist _ _))
  ·intro w h1 h2;have h3:w∈ws.drop 4:=eS h1;have h4:w∈ws.take 4:=by
    have:ws.take (1+n)=(ws.take 4).take (1+n):=by rw[List.take_take];congr 1;omega
    rw[this]at h2;exact eS h2
   have:=ok.1;rw[<-List.take_append_drop 4 ws,ef]at this;exact this.2.2 w h4 w h3 rfl
 ·omega
 ·exact(((e6.trans ex7).trans ex8).trans ex9).trans (cH.new ht)
 ·cases q:H l4 with
  |none=>rfl
  |some o=>rw[((e6.trans ex7).trans ex8) _ _ q (hp8.nep fr4).symm]at fr4;cases fr4
mutual
def DR(K:Za)(G:Hp):DT->V->Prop
 |.k a,v=>v=kV a
 |.t l,v=>∃b xs,v=.ref b/\bN K G b xs/\DRs K G l xs
 |.s l,v=>∃b xs,v=.ref b/\G b=some (.lst xs)/\DRs K G l xs
def DRs(K:Za)(G:Hp):List DT->List V->Prop
 |[],vs=>vs=[]
 |k::r,vs=>∃v us,vs=v::us/\DR K G k v/\DRs K G r us
end
mutual
theorem DR.same{K:Za}{H H':Hp}(S:ae H H'):∀{d:DT}{v:V},DR K H d v->DR K H' d v
 |.k a,v,h=>by unfold DR at h ⊢;exact h
 |.t l,v,h=>by
  unfold DR at h ⊢;obtain⟨b,xs,e,q,r⟩:=h;exact⟨b,xs,e,bN.same S q,DRs.same S r⟩
 |.s l,v,h=>by
  unfold DR at h ⊢;obtain⟨b,xs,e,q,r⟩:=h;exact⟨b,xs,e,S _ _ q,DRs.same S r⟩
theorem DRs.same{K:Za}{H H':Hp}(S:ae H H'):∀{ds:List DT}{vs:List V},DRs K H ds vs->DRs K H' ds vs
 |[],vs,h=>by unfold DRs at h ⊢;exact h
 |d::ds,vs,h=>by
  unfold DRs at h ⊢;obtain⟨v,us,e,q,r⟩:=h;exact⟨v,us,e,DR.same S q,DRs.same S r⟩
end
mutual
theorem DR.dIn{K:Za}{H:Hp}:∀{d:DT}{v:V},DR K H d v->iO K H d v
 |.k a,v,h=>by unfold DR at h;unfold iO;exact h
 |.t l,v,h=>by
  unfold DR at h;unfold iO;obtain⟨b,xs,e,q,r⟩:=h;exact⟨b,xs,e,q,DRs.dIns r⟩
 |.s l,v,h=>by
  unfold DR at h;unfold iO;obtain⟨b,xs,e,q,r⟩:=h;exact⟨b,xs,e,aA.of q,DRs.dIns r⟩
theorem DRs.dIns{K:Za}{H:Hp}:∀{ds:List DT}{vs:List V},DRs K H ds vs->DIns K H ds vs
 |[],vs,h=>by unfold DRs at h;unfold DIns;exact h
 |d::ds,vs,h=>by
  unfold DRs at h;unfold DIns;obtain⟨v,us,e,q,r⟩:=h;exact⟨v,us,e,DR.dIn q,DRs.dIns r⟩
end
theorem DRs.paired{K:Za}{G:Hp}:∀{ds:List DT}{vs:List V},DRs K G ds vs->Paired (fun v d=>DR K G d v) vs ds
 |[],vs,h=>by unfold DRs at h;subst h;exact .nil
 |d::ds,vs,h=>by
  unfold DRs at h;obtain⟨v,us,rfl,q,r⟩:=h;exact .cons q (DRs.paired r)
theorem DRs.len{K:Za}{G:Hp}{ds:List DT}{vs:List V}(h:DRs K G ds vs):vs.length=ds.length:=Paired.length h.paired
theorem DRs.getL{K:Za}{G:Hp}{ds:List DT}{vs:List V}{i:Nat}{v:V}(h:DRs K G ds vs)(e:vs[i]?=some v):∃d,ds[i]?=some d/\DR K G d v:=Paired.getL h.paired e
structure AV where
 p:Hp->V->Prop
 mono:∀{G G':Hp}{v:V},ae G G'->p G v->p G' v
def dv(K:Za)(d:DT):AV:=⟨fun G v=>DR K G d v,fun S h=>DR.same S h⟩
def bv(b:Bool):AV:=⟨fun _ v=>v=.bl b,fun _ h=>h⟩
def nv:AV:=⟨fun _ v=>v=.non,fun _ h=>h⟩
abbrev CL(n:Int):DT:=.k (.inl n)
section
variable{K:Za}
def RV(v:V)(z:AV):Prop:=∀G,z.p G v
theorem BX{n:Int}:RV (.int n) (dv K (CL n)):=fun G=>by show DR K G _ _;unfold DR;rfl
theorem lh{w:Str}:RV (.str w) (dv K (aP w)):=fun G=>by show DR K G _ _;unfold aP DR;rfl
theorem fI{G:Hp}:∀ws:List Str,DRs K G (ws.map aP) (ws.map V.str)
 |[]=>by unfold DRs;rfl
 |w::ws=>by
  rw[aS,aS];unfold DRs;exact⟨_,_,rfl,lh (K:=K) G,fI ws⟩
def Bi(J0 J1 J2:Zb)(ds:List ar):DT:=.t [.s (J0.map aP),.s (J1.map aP),.s (J2.map aP),.s (ds.map g_)]
theorem A3{G:Hp}{s:Addr}{sg:Zb}(h:bN K G s (sg.map V.str)):DR K G (xQ sg) (.ref s):=by
 unfold xQ DR;exact⟨s,_,rfl,h,fI sg⟩
theorem A4{G:Hp}{t:Addr}{d:ar}(h:eo G t d):DR K G (g_ d) (.ref t):=by
 obtain⟨s,h1,h2⟩:=h;unfold g_ DR;refine⟨t,_,rfl,bN.of h1,?_⟩;unfold DRs;refine⟨_,_,rfl,lh (K:=K) G,?_⟩;unfold DRs;refine⟨_,_,rfl,A3 (bN.of h2),?_⟩;unfold DRs;refine⟨_,_,rfl,lh (K:=K) G,?_⟩;unfold DRs
 rfl
theorem i6{G:Hp}:∀{ts:Ze}{ds:List ar},cP G ts ds->DRs K G (ds.map g_) (ts.map V.ref)
 |_,_,.nil=>by unfold DRs;rfl
 |_,_,.cons h r=>by
  rw[aS,aS];unfold DRs;exact⟨_,_,rfl,A4 h,i6 r⟩
theorem A2{G:Hp}{t l1 l2 l3 l4:Addr}{ts:Ze}{J0 J1 J2:Zb}{ds:List ar}(T:oI G t l1 l2 l3 l4 ts J0 J1 J2 ds):DR K G (Bi J0 J1 J2 ds) (.ref t):=by
 have ls:∀{l:Addr}{ws:Zb},G l=some (.lst (ws.map V.str))->DR K G (.s (ws.map aP)) (.ref l):=fun h=>by unfold DR;exact⟨_,_,rfl,h,fI _⟩
 unfold Bi DR;refine⟨t,_,rfl,bN.of T.t,?_⟩;unfold DRs;refine⟨_,_,rfl,ls T.a1,?_⟩;unfold DRs;refine⟨_,_,rfl,ls T.a2,?_⟩;unfold DRs;refine⟨_,_,rfl,ls T.a3,?_⟩;unfold DRs;refine⟨_,_,rfl,by unfold DR;exact⟨_,_,rfl,T.a4,i6 T.ds⟩,?_⟩;unfold DRs
 rfl
end
def mv(C:Addr)(J0 J1 J2:Zb)(ds:List ar):AV:=⟨fun G v=>∃x,v=.ref x/\dz C G x J0 J1 J2 ds,fun S ⟨x,e,h⟩=>⟨x,e,h.same S⟩⟩
inductive Sl where
 |no
 |im (a:AV)
 |lc (n:Nat)
 |pn
inductive Ce where
 |lst (xs:List Sl)
 |dk (kvs:List (cG×Sl))
 |dt (kvs:List (TK×Sl))
 |ins (C:Addr) (fs:List (Str×Sl))
 |fk (o:Obj) (l:List (cG×V)) (kvs:List (cG×Sl))
abbrev SH:=List (Nat×Ce)
structure Mp where
 G:Hp
 H:Hp
 ad:Nat->Addr
 P:Addr->Prop
def Ok(m:Mp)(h:SH):Sl->V->Prop
 |.no,_=>True
 |.im a,v=>a.p m.G v
 |.lc n,v=>(∃c,(n,c)∈h)/\v=.ref (m.ad n)
 |.pn,v=>∃p c o,v=.ref p/\m.P p/\m.G c=some o/\eZ m.H p c
abbrev jX(m:Mp)(h:SH):List V->List Sl->Prop:=Paired fun v x=>Ok m h x v
def su(m:Mp)(h:SH)(a:Addr):Ce->Prop
 |.lst xs=>∃vs,m.H a=some (.lst vs)/\jX m h vs xs
 |.dk kvs=>∃vs,m.H a=some (.dK ((kvs.map (·.1)).zip vs))/\jX m h vs (kvs.map (·.2))
 |.dt kvs=>∃vs,m.H a=some (.dT ((kvs.map (·.1)).zip vs))/\jX m h vs (kvs.map (·.2))
 |.ins C fs=>∃dx vs,m.H a=some (.ins C dx ((fs.map (·.1)).zip vs))/\jX m h vs (fs.map (·.2))
 |.fk o l kvs=>m.H a=some (.frz o (.dK l))/\Paired (fun(p:cG×V) (q:cG×Sl)=>p.1=q.1/\Ok m h q.2 p.2) l kvs
structure Wf(m:Mp)(h:SH):Prop where
 s:ae m.G m.H
 p:∀a,m.P a->m.G a=none/\m.H a≠none
 c:∀n c,(n,c)∈h->m.G (m.ad n)=none/\¬m.P (m.ad n)/\su m h (m.ad n) c
 i:∀n c n' c',(n,c)∈h->(n',c')∈h->m.ad n=m.ad n'->n=n'
 u:(h.map (·.1)).Nodup
structure Bs where
 G:Hp
 H:Hp
 P:Addr->Prop
 M:Addr->Prop
 R:Addr->Prop
 N:List (Nat×Addr)
structure Fr(B:Bs)(m:Mp)(h:SH):Prop where
 gg:ae B.G m.G
 hh:∀a o,B.H a=some o->¬B.P a->¬B.M a->m.H a=some o
 al:∀a,B.H a≠none->m.H a≠none
 fr:∀a,m.G a≠none->B.G a≠none∨B.H a=none
 pe:∀p c o,B.P p->B.G c=some o->eZ B.H p c->eZ m.H p c
 pp:∀a,B.P a↔m.P a
 ow:∀n c,(n,c)∈h->B.H (m.ad n)=none∨B.M (m.ad n)∨B.R (m.ad n)
 nd:∀n a,(n,a)∈B.N->1000<=n/\m.ad n=a/\∃c,(n,c)∈h
structure Rw(B:Bs)(s:List Sl)(h:SH)(T:List Sl)(σ:L2.St)(vs:List V)(m:Mp):Prop where
 fr:Fr B m h
 wf:Wf m h
 len:s.length=σ.length
 sl:∀(i:Nat) (x:Sl),s[i]?=some x->x=.no∨∃v,σ[i]?=some (some v)/\Ok m h x v
 tm:jX m h vs T
def A(B:Bs)(s:List Sl)(h:SH)(T:List Sl)(σ:L2.St)(vs:List V)(H:Hp):Prop:=∃m,m.H=H/\Rw B s h T σ vs m
theorem su.some{m:Mp}{h:SH}{a:Addr}{c:Ce}(x:su m h a c):∃o,m.H a=some o:=by
 cases c with
 |lst xs=>obtain⟨vs,e,_⟩:=x;exact⟨_,e⟩
 |dk xs=>obtain⟨vs,e,_⟩:=x;exact⟨_,e⟩
 |dt xs=>obtain⟨vs,e,_⟩:=x;exact⟨_,e⟩
 |ins C fs=>obtain⟨dx,vs,e,_⟩:=x;exact⟨_,e⟩
 |fk o l xs=>exact⟨_,x.1⟩
structure Mv(m:Mp)(h:SH)(m':Mp)(h':SH):Prop where
 gg:ae m.G m'.G
 s:ae m'.G m'.H
 hh:∀a o,m.H a=some o->¬m.P a->m'.H a=some o
 al:∀a,m.H a≠none->m'.H a≠none
 fr:∀a,m'.G a≠none->m.G a≠none∨m.H a=none
 pe:∀p c o,m.P p->m.G c=some o->eZ m.H p c->eZ m'.H p c
 pp:m'.P=m.P
 ad:∀n c,(n,c)∈h->m'.ad n=m.ad n
 nm:∀n c,(n,c)∈h->∃c',(n,c')∈h'
theorem Ok.mv{m m':Mp}{h h':SH}(M:Mv m h m' h'):∀{x:Sl}{v:V},Ok m h x v->Ok m' h' x v
 |.no,_,_=>dY
 |.im a,_,q=>a.mono M.gg q
 |.lc n,v,⟨⟨c,hc⟩,e⟩=>⟨M.nm n c hc,by rw[M.ad n c hc];exact e⟩
 |.pn,v,⟨p,c,o,h1,h2,h3,h4⟩=>⟨p,c,o,h1,by rw[M.pp];exact h2,M.gg _ _ h3,M.pe p c o h2 h3 h4⟩
theorem su.mv{m m':Mp}{h h':SH}{a:Addr}{c:Ce}(M:Mv m h m' h')(ha:¬m.P a)(x:su m h a c):su m' h' a c:=by
 cases c with
 |lst xs=>obtain⟨vs,e,r⟩:=x;exact⟨vs,M.hh _ _ e ha,Paired.mapP r fun v x q=>Ok.mv M q⟩
 |dk xs=>obtain⟨vs,e,r⟩:=x;exact⟨vs,M.hh _ _ e ha,Paired.mapP r fun v x q=>Ok.mv M q⟩
 |dt xs=>obtain⟨vs,e,r⟩:=x;exact⟨vs,M.hh _ _ e ha,Paired.mapP r fun v x q=>Ok.mv M q⟩
 |ins C fs=>obtain⟨dx,vs,e,r⟩:=x;exact⟨dx,vs,M.hh _ _ e ha,Paired.mapP r fun v x q=>Ok.mv M q⟩
 |fk o l xs=>exact⟨M.hh _ _ x.1 ha,Paired.mapP x.2 fun v x q=>⟨q.1,Ok.mv M q.2⟩⟩
theorem Mv.refl{m:Mp}{h:SH}(S:ae m.G m.H):Mv m h m h:=⟨.refl _,S,fun _ _ e _=>e,fun _ e=>e,fun _ e=>.inl e,fun _ _ _ _ _ e=>e,rfl,fun _ _ _=>rfl,fun n c e=>⟨c,e⟩⟩
theorem Mv.trans{m m1 m2:Mp}{h h1 h2:SH}(a:Mv m h m1 h1)(b:Mv m1 h1 m2 h2):Mv m h m2 h2 :=
 ⟨a.gg.trans b.gg,b.s,fun x o e n=>b.hh x o (a.hh x o e n) (by rw[a.pp];exact n),fun x e=>b.al x (a.al x e),fun x e=>by
  rcases b.fr x e with e|e
  ·exact a.fr x e
  ·refine .inr ?_;cases q:m.H x with
   |none=>rfl
   |some u=>exact absurd e (a.al x (by rw[q];exact nofun)),fun p c o hp hc e=>b.pe p c o (by rw[a.pp];exact hp) (a.gg _ _ hc) (a.pe p c o hp hc e),b.pp.trans a.pp,fun n c e=>by
  obtain⟨c',e'⟩:=a.nm n c e;rw[b.ad n c' e',a.ad n c e],fun n c e=>by
  obtain⟨c',e'⟩:=a.nm n c e;exact b.nm n c' e'⟩
theorem Rw.mv{B:Bs}{s:List Sl}{h:SH}{T:List Sl}{σ:L2.St}{vs:List V}{m m':Mp}(R:Rw B s h T σ vs m)(M:Mv m h m' h):Rw B s h T σ vs m':=by
 refine⟨⟨R.fr.gg.trans M.gg,fun a o e n1 n2=>M.hh a o (R.fr.hh a o e n1 n2) (fun z=>n1 ((R.fr.pp a).mpr z)),fun a e=>M.al a (R.fr.al a e),fun a e=>?_,fun p c o hp hc e=>M.pe p c o ((R.fr.pp p).mp hp) (R.fr.gg _ _ hc) (R.fr.pe p c o hp hc e),fun a=>by rw[M.pp];exact R.fr.pp a,fun n c e=>by rw[M.ad n c e];exact R.fr.ow n c e,fun n a e=>by
   obtain⟨h1,h2,c,h3⟩:=R.fr.nd n a e;exact⟨h1,by rw[M.ad n c h3];exact h2,c,h3⟩⟩,
  ⟨M.s,fun a e=>?_,fun n c e=>?_,fun n c n' c' e e' z=>?_,R.wf.u⟩,R.len,fun i x e=>(R.sl i x e).imp id fun⟨v,e,q⟩=>⟨v,e,Ok.mv M q⟩,Paired.mapP R.tm fun v x q=>Ok.mv M q⟩
 ·rcases M.fr a e with e|e
  ·exact R.fr.fr a e
  ·refine .inr ?_;cases q:B.H a with
   |none=>rfl
   |some u=>exact absurd e (R.fr.al a (by rw[q];exact nofun))
 ·rw[M.pp]at e;obtain⟨h1,h2⟩:=R.wf.p a e;refine⟨?_,M.al a h2⟩;cases q:m'.G a with
  |none=>rfl
  |some u=>rcases M.fr a (by rw[q];exact nofun)with z|z;exact absurd h1 z;exact absurd z h2
 ·obtain⟨h1,h2,h3⟩:=R.wf.c n c e;rw[M.ad n c e];refine⟨?_,by rw[M.pp];exact h2,h3.mv M h2⟩;cases q:m'.G (m.ad n)with
  |none=>rfl
  |some u =>
   obtain⟨o,ho⟩:=h3.some;rcases M.fr _ (by rw[q];exact nofun)with z|z
   ·exact absurd h1 z
   ·rw[ho]at z;cases z
 ·rw[M.ad n c e,M.ad n' c' e']at z;exact R.wf.i n c n' c' e e' z
section
variable{B:Bs}{s:List Sl}{h:SH}{T:List Sl}{σ:L2.St}{vs:List V}{m:Mp}
theorem Rw.push(R:Rw B s h T σ vs m){x:Sl}{v:V}(q:Ok m h x v):A B s h (x::T) σ (v::vs) m.H:=⟨m,rfl,R.fr,R.wf,R.len,R.sl,.cons q R.tm⟩
theorem Rw.drop{x:Sl}{v:V}(R:Rw B s h (x::T) σ (v::vs) m):Rw B s h T σ vs m:=⟨R.fr,R.wf,R.len,R.sl,by cases R.tm with|cons _ r=>exact r⟩
theorem Rw.top{x:Sl}{v:V}(R:Rw B s h (x::T) σ (v::vs) m):Ok m h x v:=by cases R.tm with|cons q _=>exact q
theorem Rw.fresh(R:Rw B s h T σ vs m){l:Addr}(hl:m.H l=none):B.H l=none/\m.G l=none/\¬m.P l/\∀n c,(n,c)∈h->m.ad n≠l:=by
 refine⟨?_,R.wf.s.free hl,fun z=>(R.wf.p l z).2 hl,fun n c e z=>?_⟩
 ·cases q:B.H l with
  |none=>rfl
  |some u=>exact absurd hl (R.fr.al l (by rw[q];exact nofun))
 ·obtain⟨o,ho⟩:=(R.wf.c n c e).2.2.some;rw[z,hl]at ho;cases ho
theorem Mv.new{l:Addr}{o:HO}(S:ae m.G m.H)(hl:m.H l=none):Mv m h { m with G:=upd m.G l o,H:=upd m.H l o } h:=by
 have gl:m.G l=none:=S.free hl;refine⟨ae.new gl,fun b u e=>?_,fun a u e _=>kp e hl,fun a e=>?_,fun a e=>?_,fun p c _ _ _ e=>e.ex (ae.new hl),rfl,fun _ _ _=>rfl,fun n c e=>⟨c,e⟩⟩
 ·by_cases z:b=l
  ·subst z;have e':upd m.G b o b=some u:=e;rw[aa]at e';show upd m.H b o b=some u;rw[aa];exact e'
  ·have e':upd m.G l o b=some u:=e;rw[ai z]at e';show upd m.H l o b=some u;rw[ai z];exact S _ _ e'
 ·show upd m.H l o a≠none;by_cases z:a=l
  ·subst z;rw[aa];exact nofun
  ·rw[ai z];exact e
 ·by_cases z:a=l
  ·subst z;exact .inr hl
  ·have e':upd m.G l o a≠none:=e;rw[ai z]at e';exact .inl e'
def free(h:SH)(n:Nat):Prop:=n<1000/\∀c,(n,c)∉h
theorem AW{h:SH}{n:Nat}(l:n<1000)(e:(h.map (·.1)).contains n=false):free h n:=⟨l,fun c z=>by
 have:n∈h.map (·.1):=aU.mpr ⟨(n,c),z,rfl⟩;have:=List.contains_iff_mem.mpr this;rw[e]at this;cases this⟩
theorem Rw.cell{l:Addr}{n:Nat}{c:Ce}{m':Mp}(R:Rw B s h T σ vs m)(M:Mv m h m' h)(fn:free h n)(hl:m.H l=none)(gl:m'.G l=none)(hc:su { m' with ad:=fun k=>if k=n then l else m'.ad k } ((n,c)::h) l c):
  ∃m2:Mp,m2.H=m'.H/\m2.ad n=l/\Rw B s ((n,c)::h) T σ vs m2:=by
 have R1:=R.mv M;obtain⟨f1,f2,f3,f4⟩:=R.fresh hl
 let m2:Mp:={ m' with ad:=fun k=>if k=n then l else m'.ad k }
 have an:m2.ad n=l:=if_pos rfl;have ne:∀k ck,(k,ck)∈h->k≠n:=fun k ck e z=>fn.2 ck (by rw[<-z];exact e);have ak:∀k ck,(k,ck)∈h->m2.ad k=m'.ad k:=fun k ck e=>if_neg (ne k ck e);have M2:Mv m' h m2 ((n,c)::h):=⟨.refl _,R1.wf.s,fun _ _ e _=>e,fun _ e=>e,fun _ e=>.inl e,fun _ _ _ _ _ e=>e,rfl,ak,fun k ck e=>⟨ck,cg _ e⟩⟩;have pl:¬m'.P l:=by rw[M.pp];exact f3
 refine⟨m2,rfl,an,⟨R1.fr.gg,R1.fr.hh,R1.fr.al,R1.fr.fr,R1.fr.pe,R1.fr.pp,fun k ck e=>?_,fun k a e=>?_⟩,⟨R1.wf.s,R1.wf.p,fun k ck e=>?_,fun k ck k' ck' e e' z=>?_,?_⟩,R1.len,fun i x e=>(R1.sl i x e).imp id fun⟨v,e,q⟩=>⟨v,e,Ok.mv M2 q⟩,Paired.mapP R1.tm fun v x q=>Ok.mv M2 q⟩
 ·rcases bg.mp e with e|e
  ·cases e;rw[an];exact .inl f1
  ·rw[ak k ck e];exact R1.fr.ow k ck e
 ·obtain⟨h1,h2,ck,h3⟩:=R1.fr.nd k a e;exact⟨h1,by rw[ak k ck h3];exact h2,ck,cg _ h3⟩
 ·rcases bg.mp e with e|e
  ·cases e;rw[an];exact⟨gl,pl,hc⟩
  ·obtain⟨h1,h2,h3⟩:=R1.wf.c k ck e;rw[ak k ck e];exact⟨h1,h2,h3.mv M2 h2⟩
 ·rcases bg.mp e with e|e
  ·cases e;rcases bg.mp e' with e'|e'
   ·cases e';rfl
   ·rw[an,ak k' ck' e',M.ad k' ck' e']at z;exact absurd z.symm (f4 k' ck' e')
  ·rcases bg.mp e' with e'|e'
   ·cases e';rw[an,ak k ck e,M.ad k ck e]at z;exact absurd z (f4 k ck e)
   ·rw[ak k ck e,ak k' ck' e']at z;exact R1.wf.i k ck k' ck' e e' z
 ·rw[aS,lS];refine⟨fun z=>?_,R1.wf.u⟩;obtain⟨⟨k,ck⟩,e,ek⟩:=aU.mp z;exact ne k ck e ek
end
theorem kn{h:SH}{n:Nat}{c:Ce}(e:h.lookup n=some c):(n,c)∈h:=by
 induction h with
 |nil=>cases e
 |cons p h ih =>
  obtain⟨k,ck⟩:=p;rw[eT]at e;by_cases z:n==k
  ·rw[z]at e;cases e;have:n=k:=by simpa using z
   subst this;exact bY
  ·have z':(n==k)=false:=by simpa using z
   rw[z']at e;exact cg _ (ih e)
def EV(s:List Sl)(h:SH)(t:TE)(φ:Sl->SH->Prop):Prop:=∀B T σ vs H Q,A B s h T σ vs H->(∀x v h' H',φ x h'->A B s h' (x::T) σ (v::vs) H'->Q v H')->t σ H Q
def ET(s:List Sl)(h:SH)(t:TT)(ψ:Bool->SH->Prop):Prop:=∀B T σ vs H Q,A B s h T σ vs H->(∀b h' H',ψ b h'->A B s h' T σ vs H'->Q b H')->t σ H Q
def EA(s:List Sl)(h:SH)(t:TA)(Φ:List Sl->SH->Prop):Prop:=∀B T σ vs H Q,A B s h T σ vs H->(∀xs us h' H',Φ xs h'->us.length=xs.length->A B s h' (xs++T) σ (us++vs) H'->Q us H')->t σ H Q
abbrev bQ(K:Za)(d:DT):Sl:=.im (dv K d)
def lv(as:List AV):AV:=⟨fun G v=>∃a vs,v=.ref a/\G a=some (.lst vs)/\Paired (fun v (x:AV)=>x.p G v) vs as,fun S ⟨a,vs,e,h,r⟩=>⟨a,vs,e,S _ _ h,Paired.mapP r fun v x q=>x.mono S q⟩⟩
def tv(as:List AV):AV:=⟨fun G v=>∃a vs,v=.ref a/\G a=some (.tup vs)/\Paired (fun v (x:AV)=>x.p G v) vs as,fun S ⟨a,vs,e,h,r⟩=>⟨a,vs,e,S _ _ h,Paired.mapP r fun v x q=>x.mono S q⟩⟩
inductive yf(K:Za)(h:SH):Sl->Bool->List Sl->Prop
 |s {ds:List DT}:yf K h (bQ K (.s ds)) true (ds.map (bQ K))
 |t {ds:List DT}:yf K h (bQ K (.t ds)) false (ds.map (bQ K))
 |v {as:List AV}:yf K h (.im (lv as)) true (as.map .im)
 |w {as:List AV}:yf K h (.im (tv as)) false (as.map .im)
 |c {n:Nat}{xs:List Sl}(e:h.lookup n=some (.lst xs)):yf K h (.lc n) true xs
inductive BI(K:Za)(h:SH):Sl->Bool->List DT->Prop
 |s {ds:List DT}:BI K h (bQ K (.s ds)) true ds
 |t {ds:List DT}:BI K h (bQ K (.t ds)) false ds
 |c {n:Nat}{ds:List DT}(e:h.lookup n=some (.lst (ds.map (bQ K)))):BI K h (.lc n) true ds
theorem BI.v{K:Za}{h:SH}{x:Sl}{b:Bool}{ds:List DT}(q:BI K h x b ds):yf K h x b (ds.map (bQ K)):=by
 cases q with
 |s=>exact .s
 |t=>exact .t
 |c e=>exact .c e
inductive vy(K:Za)(h:SH):Sl->DT->Prop
 |d {d:DT}:vy K h (bQ K d) d
 |c {n:Nat}{xs:List Sl}{ds:List DT}(e:h.lookup n=some (.lst xs)) (r:Paired (vy K h) xs ds):vy K h (.lc n) (.s ds)
inductive ub(K:Za):List Sl->List DT->Prop
 |nil:ub K [] []
 |cons {d:DT}{xs:List Sl}{ds:List DT}:ub K xs ds->ub K (bQ K d::xs) (d::ds)
inductive yh:List Sl->List AV->Prop
 |nil:yh [] []
 |cons {a:AV}{xs:List Sl}{as:List AV}:yh xs as->yh (.im a::xs) (a::as)
section
variable{K:Za}{m:Mp}{h:SH}
theorem wg{ds:List DT}:∀{us:List V},DRs K m.G ds us->jX m h us (ds.map (bQ K)):=by
 induction ds with
 |nil=>intro us q;unfold DRs at q;subst q;exact .nil
 |cons d ds ih=>intro us q;unfold DRs at q;obtain⟨v,us,rfl,q1,q2⟩:=q;exact .cons q1 (ih q2)
theorem BF:∀{ds:List DT}{us:List V},jX m h us (ds.map (bQ K))->DRs K m.G ds us
 |[],us,q=>by cases q;unfold DRs;rfl
 |d::ds,us,q=>by cases q with|cons q1 q2=>unfold DRs;exact⟨_,_,rfl,q1,BF q2⟩
theorem ze:∀{as:List AV}{us:List V},Paired (fun v (x:AV)=>x.p m.G v) us as->jX m h us (as.map .im)
 |_,_,.nil=>.nil
 |_,_,.cons q r=>.cons q (ze r)
theorem yf.view{x:Sl}{b:Bool}{xs:List Sl}{v:V}(q:yf K h x b xs)(W:Wf m h)(o:Ok m h x v):∃a us,v=.ref a/\jX m h us xs/\(b=true->m.H a=some (.lst us))/\(b=false->bN K m.H a us):=by
 cases q with
 |@s ds =>
  have o':DR K m.G (.s ds) v:=o;unfold DR at o';obtain⟨a,us,e,h1,h2⟩:=o';exact⟨a,us,e,wg h2,fun _=>W.s _ _ h1,nofun⟩
 |@t ds =>
  have o':DR K m.G (.t ds) v:=o;unfold DR at o';obtain⟨a,us,e,h1,h2⟩:=o';exact⟨a,us,e,wg h2,nofun,fun _=>bN.same W.s h1⟩
 |v=>obtain⟨a,us,e,h1,h2⟩:=o;exact⟨a,us,e,ze h2,fun _=>W.s _ _ h1,nofun⟩
 |w=>obtain⟨a,us,e,h1,h2⟩:=o;exact⟨a,us,e,ze h2,nofun,fun _=>bN.of (W.s _ _ h1)⟩
 |c e =>
  obtain⟨_,rfl⟩:=o;obtain⟨_,_,us,h1,h2⟩:=W.c _ _ (kn e);exact⟨_,us,rfl,h2,fun _=>h1,nofun⟩
theorem wu{x:Sl}{d:DT}(q:vy K h x d)(W:Wf m h):∀{v:V},Ok m h x v->iO K m.H d v:=by
 have key:∀(n:Nat) {x:Sl}{d:DT},d.depth<=n->vy K h x d->∀{v:V},Ok m h x v->iO K m.H d v:=by
  intro n
  induction n with
  |zero =>
   intro x d hd q v o;cases q with
   |d=>exact iO.same W.s (DR.dIn o)
   |c e r=>exact absurd hd (by show ¬(DT.depths _+1<=0);omega)
  |succ n ih =>
   intro x d hd q v o;cases q with
   |d=>exact iO.same W.s (DR.dIn o)
   |@c k xs ds e r =>
    obtain⟨_,rfl⟩:=o;obtain⟨_,_,us,h1,h2⟩:=W.c _ _ (kn e);have hd':DT.depths ds<=n:=by have:DT.depths ds+1<=n+1:=hd;omega
    unfold iO;refine⟨_,us,rfl,aA.of h1,?_⟩;clear e h1 hd
    induction r generalizing us with
    |nil=>cases h2;unfold DIns;rfl
    |@cons y d' ys ds' q1 q2 ihr =>
     cases h2 with
     |cons o1 o2 =>
      have hd2:max (DT.depth d') (DT.depths ds')<=n:=hd';unfold DIns;exact⟨_,_,rfl,ih (by omega) q1 o1,ihr _ o2 (by omega)⟩
 exact fun{v} o=>key _ (aD _) q o
theorem ub.view{xs:List Sl}{ds:List DT}(q:ub K xs ds):∀{us:List V},jX m h us xs->DRs K m.G ds us:=by
 induction q with
 |nil=>intro us h;cases h;unfold DRs;rfl
 |cons _ ih=>intro us h;cases h with|cons h1 h2=>unfold DRs;exact⟨_,_,rfl,h1,ih h2⟩
theorem yh.view{xs:List Sl}{as:List AV}(q:yh xs as):∀{us:List V},jX m h us xs->Paired (fun v (x:AV)=>x.p m.G v) us as:=by
 induction q with
 |nil=>intro us h;cases h;exact .nil
 |cons _ ih=>intro us h;cases h with|cons h1 h2=>exact .cons h1 (ih h2)
end
theorem Paired.cut{R:V->Sl->Prop}:∀{us:List V}{xs:List Sl}{vs:List V}{T:List Sl},us.length=xs.length->Paired R (us++vs) (xs++T)->Paired R us xs/\Paired R vs T
 |[],[],_,_,_,h=>⟨.nil,h⟩
 |[],_::_,_,_,e,_=>by cases e
 |_::_,[],_,_,e,_=>by cases e
 |u::us,x::xs,_,_,e,h=>by
  cases h with
  |cons h1 h2=>obtain⟨g1,g2⟩:=Paired.cut (by simpa using e) h2;exact⟨.cons h1 g1,g2⟩
theorem Rw.args{B:Bs}{s:List Sl}{h:SH}{T:List Sl}{σ:L2.St}{vs:List V}{m:Mp}{xs:List Sl}{us:List V}(R:Rw B s h (xs++T) σ (us++vs) m)(e:us.length=xs.length):jX m h us xs/\Rw B s h T σ vs m:=by
 obtain⟨h1,h2⟩:=Paired.cut e R.tm;exact⟨h1,R.fr,R.wf,R.len,R.sl,h2⟩
def yj(K:Za)(h:SH)(φ:Sl->SH->Prop)(xs:List Sl):Prop:=(∃ds,ub K xs ds/\φ (bQ K (.s ds)) h)∨(∃as,yh xs as/\φ (.im (lv as)) h)∨∃n,(n<1000/\(h.map (·.1)).contains n=false)/\φ (.lc n) ((n,.lst xs)::h)
theorem t4{K:Za}:∀ds:List DT,ub K (ds.map (bQ K)) ds
 |[]=>.nil
 |d::ds=>.cons (t4 ds)
section
variable{B:Bs}{s:List Sl}{h:SH}{T:List Sl}{σ:L2.St}{vs:List V}{m m':Mp}
theorem Rw.adopt{K:Za}{φ:Sl->SH->Prop}{xs:List Sl}{us:List V}{l:Addr}(R:Rw B s h T σ vs m)(M:Mv m h m' h)(hl:m.H l=none)(gl:m'.G l=none)(e:m'.H l=some (.lst us))(hd:jX m' h us xs)(q:yj K h φ xs):∃x h',φ x h'/\A B s h' (x::T) σ (.ref l::vs) m'.H:=by
 have M':Mv m h { m' with G:=upd m'.G l (.lst us) } h:=⟨M.gg.trans (ae.new gl),fun b u q=>by
   have q':upd m'.G l (.lst us) b=some u:=q;by_cases z:b=l
   ·subst z;rw[aa]at q';rw[<-q'];exact e
   ·rw[ai z]at q';exact M.s _ _ q',M.hh,M.al,fun b q=>by
   have q':upd m'.G l (.lst us) b≠none:=q;by_cases z:b=l
   ·subst z;exact .inr hl
   ·rw[ai z]at q';exact M.fr b q',M.pe,M.pp,M.ad,M.nm⟩
 rcases q with⟨ds,a,q⟩|⟨as,a,q⟩|⟨n,fn,q⟩
 ·refine⟨_,_,q,(R.mv M').push ?_⟩;show DR K (upd m'.G l (.lst us)) (.s ds) (.ref l);unfold DR;exact⟨l,us,rfl,aa,DRs.same (ae.new gl) (a.view hd)⟩
 ·refine⟨_,_,q,(R.mv M').push ?_⟩;exact⟨l,us,rfl,aa,Paired.mapP (a.view hd) fun v x r=>x.mono (ae.new gl) r⟩
 ·have fr:=AW fn.1 fn.2;obtain⟨f1,f2,f3,f4⟩:=R.fresh hl;have M2:Mv m' h { m' with ad:=fun k=>if k=n then l else m'.ad k } ((n,.lst xs)::h):=⟨.refl _,M.s,fun _ _ e _=>e,fun _ e=>e,fun _ e=>.inl e,fun _ _ _ _ _ e=>e,rfl,fun k ck z=>if_neg (fun y=>fr.2 ck (by rw[<-y];exact z)),fun k ck z=>⟨ck,cg _ z⟩⟩
  obtain⟨m2,e2,a2,R2⟩:=R.cell (c:=.lst xs) M fr hl gl ⟨us,e,Paired.mapP hd fun v x r=>Ok.mv M2 r⟩;refine⟨_,_,q,?_⟩;rw[<-e2];exact R2.push ⟨⟨_,bY⟩,by rw[a2]⟩
theorem Mv.newO{l:Addr}{o:HO}(S:ae m.G m.H)(hl:m.H l=none):Mv m h { m with H:=upd m.H l o } h:=by
 refine⟨.refl _,S.trans (ae.new hl),fun a u e _=>kp e hl,fun a e=>?_,fun a e=>.inl e,fun p c _ _ _ e=>e.ex (ae.new hl),rfl,fun _ _ _=>rfl,fun n c e=>⟨c,e⟩⟩;show upd m.H l o a≠none;by_cases z:a=l
 ·subst z;rw[aa];exact nofun
 ·rw[ai z];exact e
theorem Rw.newLst{K:Za}{φ:Sl->SH->Prop}{xs:List Sl}{us:List V}{l:Addr}(R:Rw B s h T σ vs m)(hl:m.H l=none)(hd:jX m h us xs)(q:yj K h φ xs):∃x h',φ x h'/\A B s h' (x::T) σ (.ref l::vs) (upd m.H l (.lst us)) :=
 R.adopt (m':={ m with H:=upd m.H l (.lst us) }) (Mv.newO R.wf.s hl) hl (R.wf.s.free hl) aa (Paired.mapP hd fun v x r=>Ok.mv (Mv.newO R.wf.s hl) r) q
theorem A.drop{H:Hp}{x:Sl}{v:V}(a:A B s h (x::T) σ (v::vs) H):A B s h T σ vs H:=let⟨m,e,R⟩:=a;⟨m,e,R.drop⟩
theorem A.pushI{H:Hp}(a:A B s h T σ vs H){x:AV}{v:V}(q:∀G,x.p G v):A B s h (.im x::T) σ (v::vs) H:=let⟨m,e,R⟩:=a;⟨m,e,R.fr,R.wf,R.len,R.sl,.cons (q m.G) R.tm⟩
end
section
variable{K:Za}{s:List Sl}{h:SH}{φ:Sl->SH->Prop}{ψ:Bool->SH->Prop}{Φ:List Sl->SH->Prop}{ta tb te:TE}{i:Nat}
theorem aq{x:Sl}(e:s[i]?=some x)(q:φ x h)(hx:x≠.no:=by exact nofun):EV s h (ja i) φ:=by
 intro B T σ vs H Q a k;obtain⟨m,rfl,R⟩:=a;rcases R.sl i x e with z|⟨v,e2,o⟩
 ·exact absurd z hx
 ·exact⟨v,e2,k x v h _ q (R.push o)⟩
theorem ei{w:Str}(q:φ (bQ K (aP w)) h):EV s h (tC (.str w)) φ:=fun B T σ vs H Q a k=>k _ _ _ _ q (a.pushI (lh (K:=K)))
theorem tT{b:Bool}(q:φ (.im (bv b)) h):EV s h (tC (.bl b)) φ:=fun B T σ vs H Q a k=>k _ _ _ _ q (a.pushI fun G=>rfl)
theorem ej(q:Φ [] h):EA s h bz Φ:=fun B T σ vs H Q a k=>k [] [] h H q rfl a
theorem bB{tr:TA}(q:EV s h ta fun x h1=>EA s h1 tr fun xs h2=>Φ (x::xs) h2):EA s h (au ta tr) Φ:=by
 intro B T σ vs H Q a k;refine q B T σ vs H _ a fun x v h1 H1 q1 a1=>q1 B _ σ _ H1 _ a1 fun xs us h2 H2 q2 hl a2=>k (x::xs) (v::us) h2 H2 q2 (by simp[hl]) ?_;obtain⟨m,e,R⟩:=a2;refine⟨m,e,R.fr,R.wf,R.len,R.sl,?_⟩;have sp:∀(xs:List Sl) (us:List V),us.length=xs.length->jX m h2 (us++v::vs) (xs++x::T)->jX m h2 (v::us++vs) (x::xs++T):=by
  intro xs
  induction xs with
  |nil=>intro us hl h;cases us with|nil=>exact h|cons _ _=>cases hl
  |cons y xs ih =>
   intro us hl h;cases us with
   |nil=>cases hl
   |cons u us =>
    cases h with
    |cons h1 h2 =>
     have:=ih us (by simpa using hl) h2;cases this with
     |cons g1 g2=>exact .cons g1 (.cons h1 g2)
 exact sp xs us hl R.tm
theorem uk{B:Bs}{T:List Sl}{σ:L2.St}{vs:List V}{H:Hp}{b:Bool}{v:V}(a:A B s h (.im (bv b)::T) σ (v::vs) H):v=.bl b/\A B s h T σ vs H:=by
 obtain⟨m,e,R⟩:=a;exact⟨R.top,m,e,R.drop⟩
theorem vV{B:Bs}{T:List Sl}{σ:L2.St}{vs:List V}{H:Hp}{n:Int}{v:V}(a:A B s h (bQ K (CL n)::T) σ (v::vs) H):v=.int n/\A B s h T σ vs H:=by
 obtain⟨m,e,R⟩:=a;have:DR K m.G (CL n) v:=R.top;unfold DR at this;exact⟨this,m,e,R.drop⟩
theorem vU{B:Bs}{T:List Sl}{σ:L2.St}{vs:List V}{H:Hp}{n:Str}{v:V}(a:A B s h (bQ K (aP n)::T) σ (v::vs) H):v=.str n/\A B s h T σ vs H:=by
 obtain⟨m,e,R⟩:=a;have:DR K m.G (aP n) v:=R.top;unfold aP DR at this;exact⟨this,m,e,R.drop⟩
theorem g9(q:EV s h te fun x h1=>∃b,x=.im (bv b)/\ψ b h1):ET s h (tB te) ψ:=by
 intro B T σ vs H Q a k;refine q B T σ vs H _ a fun x v h1 H1 ⟨b,e,q1⟩ a1=>?_;subst e;obtain⟨e,a2⟩:=uk a1;exact⟨b,e,k b h1 H1 q1 a2⟩
theorem A1(q:EV s h te fun x h1=>∃b,x=.im (bv b)/\ψ b h1):ET s h (cT te) ψ:=g9 q
theorem zH{t:TT}(q:ET s h t fun b h1=>ψ (!b) h1):ET s h (qN t) ψ:=fun B T σ vs H Q a k=>q B T σ vs H _ a fun b h1 H1 q1 a1=>k (!b) h1 H1 q1 a1
theorem rQ{t u:TT}(q:ET s h t fun b h1=>if b=true then ET s h1 u ψ else ψ false h1):ET s h (yF t u) ψ:=by
 intro B T σ vs H Q a k;refine q B T σ vs H _ a fun b h1 H1 q1 a1=>?_;cases b with
 |true=>exact cQ ((if_pos rfl).mp q1 B T σ vs H1 Q a1 k)
 |false=>exact bE (k false h1 H1 ((if_neg nofun).mp q1) a1)
theorem rP(q:ψ true h):ET s h gS ψ:=fun B T σ vs H Q a k=>k true h H q a
theorem rO(q:EV s h ta fun x h1=>∃b,x=.im (bv b)/\if b=true then EV s h1 tb φ else φ (.im (bv false)) h1):EV s h (jl ta tb) φ:=by
 intro B T σ vs H Q a k;refine q B T σ vs H _ a fun x u h1 H1 ⟨b,e,q1⟩ a1=>?_;subst e;obtain⟨e,a2⟩:=uk a1;refine⟨b,e,?_⟩;cases b with
 |true=>exact cQ ((if_pos rfl).mp q1 B T σ vs H1 Q a2 k)
 |false=>exact bE (k _ _ h1 H1 ((if_neg nofun).mp q1) (a2.pushI fun G=>rfl))
theorem AY(q:EV s h ta fun x h1=>∃b,x=.im (bv b)/\φ (.im (bv (!b))) h1):EV s h (yB ta) φ:=by
 intro B T σ vs H Q a k;refine q B T σ vs H _ a fun x u h1 H1 ⟨b,e,q1⟩ a1=>?_;subst e;obtain⟨e,a2⟩:=uk a1;exact⟨b,e,k _ _ h1 H1 q1 (a2.pushI fun G=>rfl)⟩
inductive sq:Sl->Bool->Prop
 |n:sq (.im nv) true
 |b {b:Bool}:sq (.im (bv b)) false
 |c {n:Nat}:sq (.lc n) false
 |d {K:Za}{d:DT}:sq (bQ K d) false
 |l {as:List AV}:sq (.im (lv as)) false
 |t {as:List AV}:sq (.im (tv as)) false
theorem sq.view{x:Sl}{b:Bool}(q:sq x b){m:Mp}{v:V}(o:Ok m h x v):decide (v=.non)=b:=by
 cases q with
 |n=>exact zzr1 o
 |b=>have o':v=.bl _:=o;subst o';rfl
 |c=>obtain⟨_,rfl⟩:=o;rfl
 |@d K d =>
  have o':DR K m.G d v:=o;cases d with
  |k a=>unfold DR at o';subst o';cases a<;>rfl
  |t l=>unfold DR at o';obtain⟨_,_,rfl,_⟩:=o';rfl
  |s l=>unfold DR at o';obtain⟨_,_,rfl,_⟩:=o';rfl
 |l=>obtain⟨_,_,rfl,_⟩:=o;rfl
 |t=>obtain⟨_,_,rfl,_⟩:=o;rfl
theorem Cm(q:EV s h ta fun x h1=>∃b,sq x b/\φ (.im (bv b)) h1):EV s h (yC ta) φ:=by
 intro B T σ vs H Q a k;refine q B T σ vs H _ a fun x u h1 H1 ⟨b,e,q1⟩ a1=>?_;obtain⟨m,rfl,R⟩:=a1;rw[e.view R.top];exact k _ _ h1 _ q1 (R.drop.push rfl)
theorem lG(q:EV s h ta fun x h1=>EV s h1 tb fun y h2=>∃ds es,BI K h2 x true ds/\BI K h2 y true es/\ds.length+es.length<=aj/\yj K h2 φ ((ds++es).map (bQ K))):EV s h (aL nV ta tb) φ:=by
 intro B T σ vs H Q a k;refine q B T σ vs H _ a fun x u h1 H1 q1 a1=>q1 B _ σ _ H1 _ a1 fun y v h2 H2 q2 a2=>?_;obtain⟨ds,es,i1,i2,hz,c⟩:=q2;obtain⟨m,rfl,R⟩:=a2;obtain⟨p,us,rfl,hd,g1,_⟩:=i1.v.view R.wf R.drop.top;obtain⟨p',us',rfl,hd',g1',_⟩:=i2.v.view R.wf R.top;have l1:=Paired.length hd;have l2:=Paired.length hd';rw[ap]at l1 l2;refine⟨p,p',us,us',rfl,rfl,g1 rfl,g1' rfl,by omega,fun l hl=>?_⟩;obtain⟨z,h',hz,a3⟩:=R.drop.drop.newLst hl (by rw[aM];exact Paired.app hd hd') c;exact k z _ h' _ hz a3
theorem zG(q:EV s h ta fun x h1=>EV s h1 tb fun y h2=>∃d e,vy K h2 x d/\vy K h2 y e/\d.depth<=8/\e.depth<=8/\φ (.im (bv (decide (d=e)))) h2):EV s h (aL (yW K) ta tb) φ:=by
 intro B T σ vs H Q a k;refine q B T σ vs H _ a fun x u h1 H1 q1 a1=>q1 B _ σ _ H1 _ a1 fun y v h2 H2 q2 a2=>?_;obtain⟨d,e,i1,i2,z1,z2,c⟩:=q2;obtain⟨m,rfl,R⟩:=a2;exact⟨d,e,wu i1 R.wf R.drop.top,wu i2 R.wf R.top,z1,z2,k _ _ h2 _ c (R.drop.drop.push rfl)⟩
theorem Cr(i j:Int):decide (V.int i=V.int j)=decide (i=j):=by
 rw[lU,decide_eq_true_iff,decide_eq_true_iff];exact⟨fun z=>by injection z,fun z=>by rw[z]⟩
theorem Ck(q:EV s h ta fun x h1=>EV s h1 tb fun y h2=>∃i j:Int,x=bQ K (CL i)/\y=bQ K (CL j)/\φ (.im (bv (!decide (i=j)))) h2):EV s h (aL CK ta tb) φ:=by
 intro B T σ vs H Q a k;refine q B T σ vs H _ a fun x u h1 H1 q1 a1=>q1 B _ σ _ H1 _ a1 fun y v h2 H2 q2 a2=>?_;obtain⟨i,j,rfl,rfl,c⟩:=q2;obtain⟨rfl,a3⟩:=vV a2;obtain⟨rfl,a4⟩:=vV a3;refine⟨rfl,?_⟩;rw[Cr];exact k _ _ h2 _ c (a4.pushI fun G=>rfl)
theorem vf{t:TA}(q:EA s h t fun xs h1=>∃ds,ub K xs ds/\xs.length<=aj/\φ (bQ K (.t ds)) h1):EV s h (fz t) φ:=by
 intro B T σ vs H Q a k;refine q B T σ vs H _ a fun xs us h1 H1 ⟨ds,al,z,c⟩ hl a1=>?_;obtain⟨m,rfl,R⟩:=a1;obtain⟨g1,R1⟩:=R.args hl;refine⟨by rw[hl];exact z,fun p hp=>k _ _ h1 _ c ((R1.mv (Mv.new (o:=.tup us) R1.wf.s hp)).push ?_)⟩;show DR K (upd m.G p (.tup us)) (.t ds) (.ref p);unfold DR;exact⟨p,us,rfl,bN.of aa,DRs.same (ae.new (R1.wf.s.free hp)) (al.view g1)⟩
theorem jM{t:TA}(q:EA s h t fun xs h1=>xs.length<=aj/\yj K h1 φ xs):EV s h (eF t) φ:=by
 intro B T σ vs H Q a k;refine q B T σ vs H _ a fun xs us h1 H1 ⟨z,c⟩ hl a1=>?_;obtain⟨m,rfl,R⟩:=a1;obtain⟨g1,R1⟩:=R.args hl;refine⟨by rw[hl];exact z,fun p hp=>?_⟩;obtain⟨z,h',hz,a3⟩:=R1.newLst hp g1 c;exact k z _ h' _ hz a3
theorem zE{t:TE}(q:EV s h t fun x h1=>∃b xs,yf K h1 x b xs/\φ (bQ K (CL xs.length)) h1):EV s h (de (dX K) (au t bz)) φ:=by
 intro B T σ vs H Q a k;refine q B T σ vs H _ a fun x v h1 H1 ⟨b,xs,iv,c⟩ a1=>?_;obtain⟨m,rfl,R⟩:=a1;obtain⟨p,us,rfl,hd,g1,g2⟩:=iv.view R.wf R.top;refine .inl ⟨p,us,rfl,?_,?_⟩
 ·cases b with
  |true=>exact .inl (aA.of (g1 rfl))
  |false=>exact .inr (g2 rfl)
 ·rw[Paired.length hd];exact k _ _ h1 _ c (R.drop.push (BX (K:=K) m.G))
theorem A0{t:TE}(q:EV s h t fun x h1=>∃b xs,yf K h1 x b xs/\yj K h1 φ xs):EV s h (de (cJ K) (au t bz)) φ:=by
 intro B T σ vs H Q a k;refine q B T σ vs H _ a fun x v h1 H1 ⟨b,xs,iv,c⟩ a1=>?_;obtain⟨m,rfl,R⟩:=a1;obtain⟨p,us,rfl,hd,g1,g2⟩:=iv.view R.wf R.top;refine .inl ⟨p,us,rfl,?_,fun l hl=>?_⟩
 ·cases b with
  |true=>exact .inl (aA.of (g1 rfl))
  |false=>exact .inr (g2 rfl)
 ·obtain⟨z,h',hz,a4⟩:=R.drop.newLst hl hd c;exact k z _ h' _ hz a4
end
abbrev CA(m:Mp)(h:SH)(N:List (Nat×Addr)):Bs:=⟨m.G,m.H,m.P,fun a=>∃n c,(n,c)∈h/\m.ad n=a,fun _=>False,N⟩
def Fin(m:Mp)(h:SH)(Q:VK)(φ:Sl->SH->Prop):Prop:=∀r v h' m',φ r h'->Fr (CA m h (h.map fun p=>(p.1,m.ad p.1))) m' h'->Wf m' h'->Ok m' h' r v->Q v m'.H
def Cn(sp:Sp)(xs:List Sl)(h:SH)(φ:Sl->SH->Prop):Prop:=∀us m Q E,(∀n c,(n,c)∈h->1000<=n)->Wf m h->jX m h us xs->Fin m h Q φ->sp us m.H Q E
theorem Cn.imp{sp:Sp}{xs:List Sl}{h:SH}{φ φ':Sl->SH->Prop}(c:Cn sp xs h φ)(q:∀r h',φ r h'->φ' r h'):Cn sp xs h φ':=fun us m Q E hn W o f=>c us m Q E hn W o fun r v h' m' hr=>f r v h' m' (q r h' hr)
def plain:Sl->Prop
 |.im _=>True
 |.pn=>True
 |_=>False
def Res(K:Za)(h:SH)(φ:Sl->SH->Prop)(r:Sl)(h':SH):Prop:=(∃a,r=.im a/\φ r h)∨∃n xs,r=.lc n/\h'.lookup n=some (.lst xs)/\(∀x∈xs,plain x)/\yj K h φ xs
theorem zf{m m':Mp}{h h':SH}{x:Sl}{v:V}(hx:plain x)(hG:m'.G=m.G)(hH:m'.H=m.H)(hP:m'.P=m.P)(o:Ok m h x v):Ok m' h' x v:=by
 cases x with
 |no=>exact dY
 |im a=>show a.p m'.G v;rw[hG];exact o
 |lc n=>exact hx.elim
 |pn=>obtain⟨p,c,o,h1,h2,h3,h4⟩:=o;exact⟨p,c,o,h1,by rw[hP];exact h2,by rw[hG];exact h3,by rw[hH];exact h4⟩
theorem Wf.nil{m:Mp}{h:SH}(W:Wf m h):Wf m []:=⟨W.s,W.p,(fun _ _ e=>nomatch e),(fun _ _ _ _ e=>nomatch e),ir⟩
theorem i5{m m':Mp}{h h':SH}(hG:m'.G=m.G)(hH:m'.H=m.H)(hP:m'.P=m.P):∀{us:List V}{xs:List Sl},(∀x∈xs,plain x)->jX m h us xs->jX m' h' us xs
 |_,_,_,.nil=>.nil
 |_,_,hx,.cons o r=>.cons (zf (hx _ bY) hG hH hP o) (i5 hG hH hP (fun x hx'=>hx x (cg _ hx')) r)
section
variable{K:Za}{B:Bs}{s:List Sl}{h:SH}{T:List Sl}{σ:L2.St}{vs:List V}{φ:Sl->SH->Prop}
theorem Fr.mv0{m m':Mp}{h h' h0:SH}{N:List (Nat×Addr)}{M:Addr->Prop}{R:Addr->Prop}(F:Fr ⟨m.G,m.H,m.P,M,R,N⟩ m' h')(W:Wf m' h')(hM:∀a,¬M a):Mv m h { m' with ad:=m.ad } h :=
 ⟨F.gg,W.s,fun a o e n=>F.hh a o e n (hM a),F.al,F.fr,F.pe,by funext a;exact propext (F.pp a).symm,fun _ _ _=>rfl,fun n c e=>⟨c,e⟩⟩
theorem p5{sp:Sp}{H:Hp}{Q:VK}{E:XK}{xs:List Sl}{us:List V}(hp:∀x∈xs,plain x)(c:Cn sp xs [] (Res K h φ))(hl:us.length=xs.length)(a:A B s h (xs++T) σ (us++vs) H)
  (k:∀x v h' H',φ x h'->A B s h' (x::T) σ (v::vs) H'->Q v H'):sp us H Q E:=by
 obtain⟨m,rfl,R⟩:=a;obtain⟨g1,R1⟩:=R.args hl;refine c us m Q E (fun _ _ e=>nomatch e) R1.wf.nil (i5 rfl rfl rfl hp g1) fun r v h' m' q F W o=>?_;have nM:∀a,¬∃n c,(n,c)∈([]:SH)/\m.ad n=a:=fun a ⟨_,_,e,_⟩=>nomatch e;have M:Mv m h { m' with ad:=m.ad } h:=Fr.mv0 (h0:=[]) F W nM;rcases q with⟨x,rfl,q⟩|⟨n,ys,rfl,lk,hy,q⟩
 ·exact k _ _ h _ q ((R1.mv M).push o)
 ·obtain⟨_,rfl⟩:=o;obtain⟨gn,_,ws,e,os⟩:=W.c _ _ (kn lk);have fr:m.H (m'.ad n)=none:=by
   rcases F.ow _ _ (kn lk)with z|z|z
   ·exact z
   ·exact absurd z (nM _)
   ·exact z.elim
  obtain⟨x,h2,hx,a2⟩:=R1.adopt M fr gn e (i5 (m:=m') (m':={ m' with ad:=m.ad }) rfl rfl rfl hy os) q;exact k x _ h2 _ hx a2
theorem wC{sp:Sp}{t:TA}(q:EA s h t fun xs h1=>(∀x∈xs,plain x)/\Cn sp xs [] (Res K h1 φ)):EV s h (aZ sp t) φ:=by
 intro B T σ vs H Q a k;refine q B T σ vs H _ a fun xs us h1 H1 ⟨hp,c⟩ hl a1=>?_;rw[i9];exact p5 hp c hl a1 k
def DC(C:Addr)(m:Str)(x:AV):Prop:=∀G v,x.p G v->∃a dx fs,v=.ref a/\G a=some (.ins C dx fs)/\fs.lookup m=none
theorem AZ{C:Addr}{mt:Str}{sp:Sp}{t:TA}{te:TE}(q:EV s h te fun x h1=>∃a,x=.im a/\DC C mt a/\EA s h1 t fun xs h2=>(∀x∈xs,plain x)/\Cn sp (.im a::xs) [] (Res K h2 φ)):EV s h (gB C mt sp [] E0 te t) φ:=by
 intro B T σ vs H Q a k;refine q B T σ vs H _ a fun x v h1 H1 ⟨av,e,hi,q1⟩ a1=>?_;subst e;obtain⟨m,rfl,R⟩:=a1;obtain⟨ad,dx,fs,rfl,g1,g2⟩:=hi m.G v R.top;refine⟨ad,dx,fs,rfl,R.wf.s _ _ g1,g2,q1 B _ σ _ _ _ ⟨m,rfl,R⟩ fun xs us h2 H2 ⟨hp,c⟩ hl a2=>?_⟩;rw[i9];have a3:A B s h2 ((.im av::xs)++T) σ ((.ref ad::us)++vs) H2:=by
  obtain⟨m,e,R⟩:=a2;refine⟨m,e,R.fr,R.wf,R.len,R.sl,?_⟩;obtain⟨p1,p2⟩:=Paired.cut hl R.tm;cases p2 with
  |cons q1 q2=>exact .cons q1 (Paired.app p1 q2)
 exact p5 (xs:=.im av::xs) (fun x hx=>by rcases bg.mp hx with e|e;subst e;exact dY;exact hp x e) c (by simp[hl]) a3 k
end
def EG(s:List Sl)(h:SH)(x:Sl)(g:TG)(Ψ:List Sl->SH->Prop):Prop:=∀B T σ vs v H Q,A B s h (x::T) σ (v::vs) H->(∀s' σ' h' H',Ψ s' h'->A B s' h' T σ' vs H'->Q σ' H')->g v σ H Q
def DE(s:List Sl)(h:SH)(xs:List Sl)(g:sw)(Ψ:List Sl->SH->Prop):Prop:=∀B T σ vs us H Q,A B s h (xs++T) σ (us++vs) H->us.length=xs.length->(∀s' σ' h' H',Ψ s' h'->A B s' h' T σ' vs H'->Q σ' H')->g us σ H Q
section
variable{K:Za}{s:List Sl}{h:SH}{Ψ:List Sl->SH->Prop}
theorem aR{x:Sl}{i:Nat}(q:Ψ (s.set i x) h):EG s h x (cF i) Ψ:=by
 intro B T σ vs v H Q a k;obtain⟨m,e,R⟩:=a;refine k _ _ h H q ⟨m,e,R.drop.fr,R.drop.wf,by rw[qE,qE];exact R.len,fun j y hj=>?_,R.drop.tm⟩;rw[List.getElem?_set]at hj;by_cases z:i=j
 ·subst z;rw[if_pos rfl]at hj;by_cases l:i<s.length
  ·rw[if_pos l]at hj;cases hj;refine .inr ⟨v,?_,R.top⟩;rw[List.getElem?_set,if_pos rfl,if_pos (by rw[<-R.len];exact l)]
  ·rw[if_neg l]at hj;cases hj
 ·rw[if_neg z]at hj;refine(R.sl j y hj).imp id fun⟨w,e,o⟩=>⟨w,?_,o⟩;rw[List.getElem?_set,if_neg z];exact e
theorem kz(q:Ψ s h):DE s h [] ig Ψ:=by
 intro B T σ vs us H Q a hl k;cases us with
 |nil=>exact⟨rfl,k s σ h H q a⟩
 |cons _ _=>cases hl
theorem cb{x:Sl}{xs:List Sl}{g:TG}{gs:sw}(q:EG s h x g fun s' h'=>DE s' h' xs gs Ψ):DE s h (x::xs) (bq g gs) Ψ:=by
 intro B T σ vs us H Q a hl k;cases us with
 |nil=>cases hl
 |cons u us=>exact⟨u,us,rfl,q B _ σ _ u H _ a fun s' σ' h' H' q' a'=>q' B T σ' vs us H' Q a' (by simpa using hl) k⟩
theorem wD{x:Sl}{xs:List Sl}{n:Nat}{gs:sw}(iv:yf K h x false xs)(hn:xs.length=n)(q:DE s h xs gs Ψ):EG s h x (iH K n gs) Ψ:=by
 intro B T σ vs v H Q a k;obtain⟨m,rfl,R⟩:=a;obtain⟨b,us,rfl,hd,_,g2⟩:=iv.view R.wf R.top;exact⟨b,us,rfl,g2 rfl,by rw[Paired.length hd];exact hn,q B T σ vs us _ Q ⟨m,rfl,R.fr,R.wf,R.len,R.sl,Paired.app hd R.drop.tm⟩ (Paired.length hd) k⟩
theorem rS{ds:List DT}{n:Nat}{gs:sw}(hn:ds.length=n)(q:DE s h (ds.map (bQ K)) gs Ψ):EG s h (bQ K (.t ds)) (iH K n gs) Ψ:=wD .t (by rw[ap];exact hn) q
end
structure CN(G:Hp)(J:It)(n:Nat)(el:Nat->AV):Prop where
 go:∀i G2 H2,i<n->ae G G2->ae G2 H2->J.go i H2
 st:∀G2 H2,ae G G2->ae G2 H2->J.stop n H2
 yl:∀i (m:Mp) (h:SH) x H3,i<n->ae G m.G->ae m.G m.H->J.yld i m.H x H3->∃m3:Mp,m3.H=H3/\Mv m h m3 h/\(el i).p m3.G x
theorem CN.mono{G G':Hp}{J:It}{n:Nat}{el:Nat->AV}(S:ae G G')(h:CN G J n el):CN G' J n el:=⟨fun i G2 H2 hi s=>h.go i G2 H2 hi (S.trans s),fun G2 H2 s=>h.st G2 H2 (S.trans s),fun i m hh x H3 hi s=>h.yl i m hh x H3 hi (S.trans s)⟩
def yG(J:It)(n:Nat)(el:Nat->AV):AV:=⟨fun G _=>CN G J n el,fun S h=>h.mono S⟩
def EI(s:List Sl)(h:SH)(wi:L2.TI)(Θ:Nat->(Nat->AV)->SH->Prop):Prop:=∀B T σ vs H R,A B s h T σ vs H->(∀n el J h1 m,Θ n el h1->Rw B s h1 T σ vs m->CN m.G J n el->R J m.H)->wi σ H R
def vh(as:List AV)(i:Nat):AV:=as.getD i nv
section
variable{K:Za}{s:List Sl}{h:SH}{φ:Sl->SH->Prop}{Θ:Nat->(Nat->AV)->SH->Prop}{te:TE}
inductive yg(K:Za):AV->Bool->List AV->Prop
 |s {ds:List DT}:yg K (dv K (.s ds)) true (ds.map (dv K))
 |t {ds:List DT}:yg K (dv K (.t ds)) false (ds.map (dv K))
 |v {as:List AV}:yg K (lv as) true as
 |w {as:List AV}:yg K (tv as) false as
theorem BA{G:Hp}{ds:List DT}{us:List V}(q:DRs K G ds us):Paired (fun v (x:AV)=>x.p G v) us (ds.map (dv K)):=by
 induction ds generalizing us with
 |nil=>unfold DRs at q;subst q;exact .nil
 |cons d ds ih=>unfold DRs at q;obtain⟨v,us,rfl,q1,q2⟩:=q;exact .cons q1 (ih q2)
theorem yg.view{a:AV}{b:Bool}{as:List AV}(q:yg K a b as){G:Hp}{v:V}(o:a.p G v):∃p us,v=.ref p/\Paired (fun v (x:AV)=>x.p G v) us as/\(b=true->G p=some (.lst us))/\(b=false->bN K G p us):=by
 cases q with
 |@s ds =>
  have o':DR K G (.s ds) v:=o;unfold DR at o';obtain⟨a,us,e,h1,h2⟩:=o';exact⟨a,us,e,BA h2,fun _=>h1,nofun⟩
 |@t ds =>
  have o':DR K G (.t ds) v:=o;unfold DR at o';obtain⟨a,us,e,h1,h2⟩:=o';exact⟨a,us,e,BA h2,nofun,fun _=>h1⟩
 |v=>obtain⟨a,us,e,h1,h2⟩:=o;exact⟨a,us,e,h2,fun _=>h1,nofun⟩
 |w=>obtain⟨a,us,e,h1,h2⟩:=o;exact⟨a,us,e,h2,nofun,fun _=>bN.of h1⟩
theorem Bx{G:Hp}{us:List V}{as:List AV}(r:Paired (fun v (x:AV)=>x.p G v) us as){i:Nat}{x:V}(e:us[i]?=some x):(vh as i).p G x:=by
 obtain⟨d,hd,hr⟩:=Paired.getL r e;unfold vh;rw[m5,hd];exact hr
theorem mS(q:EV s h te fun x h1=>∃a as,x=.im a/\yg K a true as/\Θ as.length (vh as) h1):EI s h (cU K te) Θ:=by
 intro B T σ vs H R a k;refine q B T σ vs H _ a fun x v h1 H1 ⟨a,as,e,f,q1⟩ a1=>?_;subst e;obtain⟨m,rfl,R1⟩:=a1;obtain⟨b,us,rfl,hr,g1,_⟩:=f.view R1.top;have gl:=g1 rfl;have hlen:=Paired.length hr;refine⟨b,rfl,⟨_,aA.of (R1.wf.s _ _ gl)⟩,k _ _ _ h1 m q1 R1.drop ⟨fun i G2 H2 hi s1 s2=>?_,fun G2 H2 s1 s2=>?_,fun i m2 hh x H3 hi s1 s2 y=>?_⟩⟩
 ·have:i<us.length:=by rw[hlen];exact hi
  exact⟨us,us[i],aA.of (s2 _ _ (s1 _ _ gl)),by simp[this]⟩
 ·exact⟨us,aA.of (s2 _ _ (s1 _ _ gl)),by rw[hlen];exact aD _⟩
 ·obtain⟨rfl,y⟩:=y;exact⟨m2,rfl,.refl s2,(vh as i).mono s1 (Bx hr (y us (aA.of (s2 _ _ (s1 _ _ gl)))))⟩
theorem Cq(q:EV s h te fun x h1=>∃a as,x=.im a/\yg K a false as/\Θ as.length (vh as) h1):EI s h (Ci K te) Θ:=by
 intro B T σ vs H R a k;refine q B T σ vs H _ a fun x v h1 H1 ⟨a,as,e,f,q1⟩ a1=>?_;subst e;obtain⟨m,rfl,R1⟩:=a1;obtain⟨b,us,rfl,hr,_,g2⟩:=f.view R1.top;have gl:=g2 rfl;have hlen:=Paired.length hr;refine⟨b,rfl,⟨_,bN.same R1.wf.s gl⟩,k _ _ _ h1 m q1 R1.drop ⟨fun i G2 H2 hi s1 s2=>?_,fun G2 H2 s1 s2=>?_,fun i m2 hh x H3 hi s1 s2 y=>?_⟩⟩
 ·have:i<us.length:=by rw[hlen];exact hi
  exact⟨us,us[i],bN.same (s1.trans s2) gl,by simp[this]⟩
 ·exact⟨us,bN.same (s1.trans s2) gl,by rw[hlen];exact aD _⟩
 ·obtain⟨rfl,y⟩:=y;exact⟨m2,rfl,.refl s2,(vh as i).mono s1 (Bx hr (y us (bN.same (s1.trans s2) gl)))⟩
end
def cS(k:Nat)(fi:List Nat)(s:List Sl):List Sl:=pk k .no++fi.map fun i=>s.getD i .no
theorem lend{B:Bs}{s:List Sl}{h:SH}{T:List Sl}{σ:L2.St}{vs:List V}{m:Mp}(R:Rw B s h T σ vs m)(k:Nat)(fi:List Nat):Rw ⟨m.G,m.H,m.P,fun _=>False,fun a=>∃n c,(n,c)∈h/\m.ad n=a,[]⟩ (cS k fi s) h [] (cM k fi σ) [] m:=by
 refine⟨⟨.refl _,fun _ _ e _ _=>e,fun _ e=>e,fun _ e=>.inl e,fun _ _ _ _ _ e=>e,fun _=>Iff.rfl,fun n c e=>.inr (.inr ⟨n,c,e,rfl⟩),fun _ _ e=>nomatch e⟩,R.wf,by unfold cS cM;simp,fun i x e=>?_,.nil⟩;unfold cS at e;by_cases z:i<k
 ·rw[nD (by simpa using z)]at e;exact .inl (List.eq_of_mem_replicate (bU e))
 ·rw[jy (by simpa using z),qG,cA]at e;cases q:fi[i-k]? with
  |none=>rw[q]at e;cases e
  |some j =>
   rw[q]at e;have e1:s.getD j .no=x:=c7 e;rw[m5]at e1;cases q2:s[j]? with
   |none=>rw[q2]at e1;exact .inl e1.symm
   |some y =>
    rw[q2]at e1;have e':y=x:=e1;subst e';refine(R.sl j y q2).imp id fun⟨v,e,o⟩=>⟨v,?_,o⟩;unfold cM;rw[jy (by simpa using z),qG,cA,q];show some ((σ[j]?).join)=_;rw[e];rfl
theorem BW{n:Nat}(h:n<=1000000):n<aj:=qz h (by decide)
theorem Mv.put{m m':Mp}{h:SH}(M:Mv m h m' h){l:Addr}{o:HO}(hl:m.H l=none)(gl:m'.G l=none)(hp:∀a,m.P a->m.H a≠none):Mv m h { m' with H:=upd m'.H l o } h :=
 ⟨M.gg,fun b u e=>by show upd m'.H l o b=some u;rw[ai (fun z=>by rw[z,gl]at e;cases e)];exact M.s _ _ e,fun a u e n=>by show upd m'.H l o a=some u;rw[ai (ah e hl)];exact M.hh a u e n,fun a e=>by
  show upd m'.H l o a≠none;rw[ai (fun z=>e (by rw[z];exact hl))];exact M.al a e,M.fr,fun p c o' hp' hc e=>by
  show eZ (upd m'.H l o) p c;exact(M.pe p c o' hp' hc e).upd (fun z=>hp p hp' (by rw[z];exact hl)) (fun z=>by have:=M.gg _ _ hc;rw[z,gl]at this;cases this),M.pp,M.ad,M.nm⟩
section
variable{K:Za}{s:List Sl}{h:SH}{φ:Sl->SH->Prop}{ψ:Bool->SH->Prop}{te:TE}
theorem wB{k:Nat}{fi:List Nat}{wi:L2.TI}{g:TG}{tc:TT}(q:EI s h wi fun n el h1=>n<=1000000/\∃I:Nat->List AV->Prop,I 0 [] /\
  (∀i acc,i<n->I i acc->EG (cS k fi s) h1 (.im (el i)) g fun sc h2=>ET sc h2 tc fun b h3=>if b=true then EV sc h3 te fun y _=>∃a,y=.im a/\I (i+1) (acc++[a])else I (i+1) acc)/\(∀acc,I n acc->yj K h1 φ (acc.map .im))):EV s h (c8 k fi wi g tc te) φ:=by
 intro B T σ vs H Q a kk;refine q B T σ vs H _ a fun n el J h1 m ⟨hz,I,i0,st,fin⟩ R S l hl=>?_;obtain⟨f1,f2,f3,f4⟩:=R.fresh hl;refine kC (Q:=fun H2=>Q (.ref l) H2) n (fun i ws H2=>∃m2 acc,m2.H=H2/\I i acc/\acc.length<=i/\Mv m h1 m2 h1/\m2.G l=none/\H2 l=some (.lst ws)/\jX m2 h1 ws (acc.map .im))
  ⟨_,[],rfl,i0,aD _,Mv.newO (o:=.lst []) R.wf.s hl,f2,aa,.nil⟩ (fun i ws H2 _ ⟨_,_,_,_,_,_,_,e,_⟩=>e) (fun i ws H2 hi ⟨m2,_,e,_,_,M,_⟩=>by rw[<-e];exact S.go i m2.G m2.H hi M.gg M.s) (fun ws H2 ⟨m2,acc,e0,hI,_,M,g,e,hd⟩=>?_) ?_
 ·subst e0;refine⟨S.st m2.G m2.H M.gg M.s,?_⟩;obtain⟨x,h2,hx,a2⟩:=R.adopt M hl g e hd (fin acc hI);exact kk x _ h2 _ hx a2
 ·rintro i ws H2 x H3 hi ⟨m2,acc,rfl,hI,hlen,M,gl,e,hd⟩ y;obtain⟨m3,rfl,M3,hx⟩:=S.yl i m2 h1 x H3 hi M.gg M.s y;have M03:=M.trans M3;have R3:=R.mv M03;have nP:¬m2.P l:=by rw[M.pp];exact f3
  have nP3:¬m3.P l:=by rw[M3.pp];exact nP
  have e3:m3.H l=some (.lst ws):=M3.hh l _ e nP;have gl3:m3.G l=none:=by
   cases q:m3.G l with
   |none=>rfl
   |some u =>
    rcases M3.fr l (by rw[q];exact nofun)with z|z
    ·exact absurd gl z
    ·rw[e]at z;cases z
  have hd3:jX m3 h1 ws (acc.map .im):=Paired.mapP hd fun v x r=>Ok.mv M3 r;refine st i acc hi hI _ [] _ [] x _ _ ((lend R3 k fi).push hx) fun sc σ2 h2 H4 h4 a4=>h4 _ [] σ2 [] H4 _ a4 fun b h3 H5 h5 a5=>?_;have step:∀{m6:Mp}{h6:SH},Fr ⟨m3.G,m3.H,m3.P,fun _=>False,fun a=>∃n c,(n,c)∈h1/\m3.ad n=a,[]⟩ m6 h6->Wf m6 h6->Mv m h1 { m6 with ad:=m3.ad } h1/\m6.G l=none/\m6.H l=some (.lst ws)/\jX { m6 with ad:=m3.ad } h1 ws (acc.map .im):=by
   intro m6 h6 F W;have M6:Mv m3 h1 { m6 with ad:=m3.ad } h1:=Fr.mv0 (h0:=[]) F W (fun _ z=>z);refine⟨M03.trans M6,?_,M6.hh l _ e3 nP3,Paired.mapP hd3 fun v x r=>Ok.mv M6 r⟩;cases q:m6.G l with
   |none=>rfl
   |some u =>
    rcases M6.fr l (by show m6.G l≠none;rw[q];exact nofun)with z|z
    ·exact absurd gl3 z
    ·rw[e3]at z;cases z
  have hpP:∀a,m.P a->m.H a≠none:=fun a z=>(R.wf.p a z).2;cases b with
  |true =>
   refine cQ ?_;refine(if_pos rfl).mp h5 _ [] σ2 [] H5 _ a5 fun y v h7 H6 ⟨ea,ey,hI'⟩ a6=>?_;subst ey;obtain⟨m6,rfl,R6⟩:=a6;obtain⟨M6,g6,e6,d6⟩:=step R6.fr R6.wf;have l6:=Paired.length d6;rw[ap]at l6;refine⟨e6,by rw[l6];exact BW (by omega),xG hi ⟨_,acc++[ea],rfl,hI',by simp;omega,M6.put (o:=.lst (ws++[v])) hl g6 hpP,g6,aa,?_⟩⟩;rw[aM];exact Paired.app (Paired.mapP d6 fun v x r=>by
    cases x with
    |im a=>exact r
    |no=>exact dY
    |lc n=>exact r
    |pn =>
     obtain⟨p,c,o,z1,z2,z3,z4⟩:=r;refine⟨p,c,o,z1,z2,z3,?_⟩;have z2':m6.P p:=z2;have z3':m6.G c=some o:=z3;exact(show eZ m6.H p c from z4).upd (fun z=>by rw[z]at z2';exact nP3 ((R6.fr.pp l).mpr z2')) (fun z=>by rw[z,g6]at z3';cases z3')) (.cons R6.top .nil)
  |false =>
   refine bE ?_;obtain⟨m6,rfl,R6⟩:=a5;obtain⟨M6,g6,e6,d6⟩:=step R6.fr R6.wf;exact xG hi ⟨{ m6 with ad:=m3.ad },acc,rfl,(if_neg nofun).mp h5,by omega,M6,g6,e6,d6⟩
end
structure AE where
 nx:List Sl->SH->Prop
 rt:Sl->SH->Prop
 bk:List Sl->SH->Prop:=fun _ _=>False
 ct:List Sl->SH->Prop:=fun _ _=>False
structure Le(De:fK)(D:AE)(B:Bs)(T:List AV)(vs:List V):Prop where
 nx:∀s h σ H,D.nx s h->A B s h (T.map .im) σ vs H->De.nx σ H
 rt:∀x h v H,D.rt x h->A B [] h [x] [] [v] H->De.rt v H
 bk:∀s h σ H,D.bk s h->A B s h (T.map .im) σ vs H->De.bk σ H
 ct:∀s h σ H,D.ct s h->A B s h (T.map .im) σ vs H->De.ct σ H
def SS(s:List Sl)(h:SH)(t:TS)(D:AE):Prop:=∀B (T:List AV) σ vs H De,(∀a,¬B.R a)->A B s h (T.map .im) σ vs H->Le De D B T vs->t De σ H
def Wk(s s':List Sl):Prop:=s'.length=s.length/\∀(i:Nat) x,s'[i]?=some x->x=.no∨s[i]?=some x
theorem Wk.refl(s:List Sl):Wk s s:=⟨rfl,fun _ _ h=>.inr h⟩
theorem kZ:Wk [] []:=.refl _
theorem Wk.cons{x:Sl}{s s':List Sl}(h:Wk s s'):Wk (x::s) (x::s'):=⟨by simp[h.1],fun i y e=>by
 cases i with
 |zero=>exact .inr e
 |succ i=>exact h.2 i y e⟩
theorem Wk.no{x:Sl}{s s':List Sl}(h:Wk s s'):Wk (x::s) (.no::s'):=⟨by simp[h.1],fun i y e=>by
 cases i with
 |zero=>exact .inl (c7 e).symm
 |succ i=>exact h.2 i y e⟩
def ol(h:SH):Sl->Bool
 |.lc n=>(h.map (·.1)).contains n
 |_=>true
def ceN(h:SH):Ce->Bool
 |.lst xs=>xs.all (ol h)
 |.dk kvs=>kvs.all fun p=>ol h p.2
 |.dt kvs=>kvs.all fun p=>ol h p.2
 |.ins _ fs=>fs.all fun p=>ol h p.2
 |.fk _ _ kvs=>kvs.all fun p=>ol h p.2
structure Fg(s:List Sl)(h h':SH):Prop where
 sub:h'.Sublist h
 sl:s.all (ol h')=true
 ce:(h'.all fun p=>ceN h' p.2)=true
 lo:∀n c,(n,c)∈h->1000<=n->(n,c)∈h'
theorem rK{m:Mp}{h h':SH}{x:Sl}{v:V}(hx:ol h' x=true)(o:Ok m h x v):Ok m h' x v:=by
 cases x with
 |no=>exact dY
 |im a=>exact o
 |pn=>exact o
 |lc n =>
  refine⟨?_,o.2⟩;have:n∈h'.map (·.1):=List.contains_iff_mem.mp hx;obtain⟨⟨k,c⟩,e,ek⟩:=aU.mp this;have:k=n:=ek;subst this;exact⟨c,e⟩
theorem iE{m:Mp}{h h':SH}:∀{vs:List V}{xs:List Sl},xs.all (ol h')=true->jX m h vs xs->jX m h' vs xs
 |_,_,_,.nil=>.nil
 |_,_,hx,.cons o r=>by
  rw[nh,gQ]at hx;exact .cons (rK hx.1 o) (iE hx.2 r)
theorem Cv{m:Mp}{h h':SH}{a:Addr}{c:Ce}(hx:ceN h' c=true)(o:su m h a c):su m h' a c:=by
 cases c with
 |lst xs=>obtain⟨vs,e,r⟩:=o;exact⟨vs,e,iE hx r⟩
 |dk xs=>obtain⟨vs,e,r⟩:=o;exact⟨vs,e,iE (by rw[kN];exact hx) r⟩
 |dt xs=>obtain⟨vs,e,r⟩:=o;exact⟨vs,e,iE (by rw[kN];exact hx) r⟩
 |ins C fs=>obtain⟨dx,vs,e,r⟩:=o;exact⟨dx,vs,e,iE (by rw[kN];exact hx) r⟩
 |fk ob l xs =>
  refine⟨o.1,?_⟩;have key:∀{l:List (cG×V)}{xs:List (cG×Sl)},Paired (fun(p:cG×V) (q:cG×Sl)=>p.1=q.1/\Ok m h q.2 p.2) l xs->(xs.all fun p=>ol h' p.2)=true->Paired (fun(p:cG×V) (q:cG×Sl)=>p.1=q.1/\Ok m h' q.2 p.2) l xs:=by
   intro l xs q
   induction q with
   |nil=>exact fun _=>.nil
   |cons h1 _ ih =>
    intro z;rw[nh,gQ]at z;exact .cons ⟨h1.1,rK z.1 h1.2⟩ (ih z.2)
  exact key o.2 hx
theorem A.wk{B:Bs}{s s':List Sl}{h:SH}{T:List Sl}{σ:L2.St}{vs:List V}{H:Hp}(a:A B s h T σ vs H)(w:Wk s s'):A B s' h T σ vs H:=by
 obtain⟨m,e,R⟩:=a;refine⟨m,e,R.fr,R.wf,by rw[w.1];exact R.len,fun i x h=>?_,R.tm⟩;rcases w.2 i x h with e|e
 ·exact .inl e
 ·exact R.sl i x e
theorem Bj{m:Mp}{h h':SH}:∀{T:List AV}{vs:List V},jX m h vs (T.map .im)->jX m h' vs (T.map .im)
 |[],_,q=>by cases q;exact .nil
 |_::_,_,q=>by cases q with|cons q1 q2=>exact .cons q1 (Bj q2)
theorem A.fg{B:Bs}{s:List Sl}{h h':SH}{T:List AV}{σ:L2.St}{vs:List V}{H:Hp}(a:A B s h (T.map .im) σ vs H)(f:Fg s h h'):A B s h' (T.map .im) σ vs H:=by
 obtain⟨m,e,R⟩:=a;have sub:∀n c,(n,c)∈h'->(n,c)∈h:=fun n c e=>f.sub.subset e;refine⟨m,e,⟨R.fr.gg,R.fr.hh,R.fr.al,R.fr.fr,R.fr.pe,R.fr.pp,fun n c e=>R.fr.ow n c (sub n c e),fun n a e=>?_⟩,⟨R.wf.s,R.wf.p,fun n c e=>?_,fun n c n' c' e e'=>R.wf.i n c n' c' (sub n c e) (sub n' c' e'),R.wf.u.sublist (f.sub.map _)⟩,R.len,fun i x hx=>(R.sl i x hx).imp id fun⟨v,e,o⟩=>⟨v,e,rK (List.all_eq_true.mp f.sl x (bU hx)) o⟩,Bj R.tm⟩
 ·obtain⟨h1,h2,c,h3⟩:=R.fr.nd n a e;exact⟨h1,h2,c,f.lo n c h3 h1⟩
 ·obtain⟨h1,h2,h3⟩:=R.wf.c n c (sub n c e);exact⟨h1,h2,Cv (List.all_eq_true.mp f.ce (n,c) e) h3⟩
theorem A.only{B:Bs}{s:List Sl}{h:SH}{T:List Sl}{σ:L2.St}{vs:List V}{H:Hp}{x:Sl}{v:V}(a:A B s h (x::T) σ (v::vs) H):A B [] h [x] [] [v] H:=by
 obtain⟨m,e,R⟩:=a;exact⟨m,e,R.fr,R.wf,rfl,fun i x h=>by simp at h,.cons R.top .nil⟩
def Dv(s:List Sl)(h:SH)(I:List Sl->SH->Prop):Prop:=∃s' h',Wk s s'/\Fg s' h h'/\I s' h'
theorem A.wf2{B:Bs}{s:List Sl}{h:SH}{T:List AV}{σ:L2.St}{vs:List V}{H:Hp}{I:List Sl->SH->Prop}(a:A B s h (T.map .im) σ vs H)(w:Dv s h I):∃s' h',I s' h'/\A B s' h' (T.map .im) σ vs H:=by
 obtain⟨s',h',w1,w2,i⟩:=w;exact⟨s',h',i,(a.wk w1).fg w2⟩
section
variable{K:Za}{s:List Sl}{h:SH}{D:AE}{te:TE}{t u:TS}
theorem bu(q:SS s h t { D with nx:=fun s' h'=>SS s' h' u D }):SS s h (aw t u) D:=fun B T σ vs H De r a l=>q B T σ vs H _ r a ⟨fun s' h' σ' H' q' a'=>q' B T σ' vs H' De r a' l,l.rt,l.bk,l.ct⟩
theorem fC(q:D.nx s h):SS s h bT D:=fun B T σ vs H De r a l=>l.nx s h σ H q a
theorem fB(q:EV s h te D.rt):SS s h (bt te) D:=fun B T σ vs H De r a l=>q B _ σ vs H _ a fun x v h1 H1 q1 a1=>l.rt x h1 v H1 q1 a1.only
theorem fD{g:TG}(q:EV s h te fun x h1=>EG s h1 x g D.nx):SS s h (aV te g) D:=fun B T σ vs H De r a l=>q B _ σ vs H _ a fun x v h1 H1 q1 a1=>q1 B _ σ vs v H1 _ a1 fun s' σ' h' H' q' a'=>l.nx s' h' σ' H' q' a'
theorem eI{c:TT}(q:ET s h c fun b h1=>if b=true then SS s h1 t D else SS s h1 u D):SS s h (du c t u) D:=by
 intro B T σ vs H De r a l;refine q B _ σ vs H _ a fun b h1 H1 q1 a1=>?_;cases b with
 |true=>exact cQ ((if_pos rfl).mp q1 B T σ vs H1 De r a1 l)
 |false=>exact bE ((if_neg nofun).mp q1 B T σ vs H1 De r a1 l)
theorem qV{wi:L2.TI}{g:TG}{tb:TS}(q:EI s h wi fun n el h1=>∃I:Nat->List Sl->SH->Prop,Dv s h1 (I 0) /\
  (∀i s' h',i<n->I i s' h'->EG s' h' (.im (el i)) g fun s2 h2=>SS s2 h2 tb { D with nx:=fun s3 h3=>Dv s3 h3 (I (i+1)),ct:=fun s3 h3=>Dv s3 h3 (I (i+1)),bk:=D.nx })/\∀s' h',I n s' h'->D.nx s' h'):SS s h (fP wi g tb) D:=by
 intro B T σ vs H De r a l;refine q B _ σ vs H _ a fun n el J h1 m ⟨I,w0,st,fin⟩ R S=>?_;obtain⟨s0,h0,i0,a0⟩:=A.wf2 (T:=yG J n el::T) (R.push (x:=.im (yG J n el)) (v:=.non) S) w0;refine⟨fun i m σ' H'=>m=n-i/\i<=n/\∃s' h',I i s' h'/\A B s' h' ((yG J n el::T).map .im) σ' (.non::vs) H',⟨n,by simp,cy _,s0,h0,i0,a0⟩,?_⟩;rintro i k σ' H' ⟨rfl,hi,s',h',hI,m2,rfl,R2⟩;have S2:CN m2.G J n el:=R2.top;by_cases hlt:i<n
 ·refine .inr ⟨S2.go i m2.G m2.H hlt (.refl _) R2.wf.s,fun σ3 H3=>∃s3 h3,I (i+1) s3 h3/\A B s3 h3 ((yG J n el::T).map .im) σ3 (.non::vs) H3,fun σ3 H3 ⟨s3,h3,i3,a3⟩=>⟨n-(i+1),by omega,rfl,hlt,s3,h3,i3,a3⟩,fun x H3 y=>?_⟩;obtain⟨m3,rfl,M3,hx⟩:=S2.yl i m2 h' x H3 hlt (.refl _) R2.wf.s y;refine st i s' h' hlt hI B _ σ' _ x _ _ ((R2.mv M3).push hx) fun s2 σ2 h2 H2 q2 a2=>q2 B (yG J n el::T) σ2 _ H2 _ r a2 ⟨fun s4 h4 σ4 H4 w5 a4=>a4.wf2 w5,l.rt,fun s4 h4 σ4 H4 q4 a4=>l.nx s4 h4 σ4 H4 q4 a4.drop,fun s4 h4 σ4 H4 w5 a4=>a4.wf2 w5⟩
 ·have e:i=n:=by omega
  subst e;exact .inl ⟨S2.st m2.G m2.H (.refl _) R2.wf.s,l.nx s' h' σ' _ (fin s' h' hI) (A.drop ⟨m2,rfl,R2⟩)⟩
end
def BU(n:Nat)(PRE:List Sl->SH->(Sl->SH->Prop)->Prop):Sp:=fun vs H Q _=>∃xs h φ m,xs.length=n/\m.H=H/\(∀n c,(n,c)∈h->1000<=n)/\Wf m h/\jX m h vs xs/\PRE xs h φ/\Fin m h Q φ
theorem Dq{n:Nat}{PRE:List Sl->SH->(Sl->SH->Prop)->Prop}{xs:List Sl}{h:SH}{φ:Sl->SH->Prop}(q:PRE xs h φ)(hn:xs.length=n:=by rfl):Cn (BU n PRE) xs h φ:=fun us m Q E h1 W o f=>⟨xs,h,φ,m,hn,rfl,h1,W,o,q,f⟩
theorem Df{n:Nat}{PRE:List Sl->SH->(Sl->SH->Prop)->Prop}{vs:List V}{H:Hp}{Q:VK}{E:XK}(q:BU n PRE vs H Q E):vs.length=n:=by
 obtain⟨xs,h,φ,m,hn,_,_,_,hx,_⟩:=q;rw[Paired.length hx,hn]
theorem body{n:Nat}{PRE:List Sl->SH->(Sl->SH->Prop)->Prop}{vs:List V}{H:Hp}{Q:VK}{E:XK}{t:TS}{N:Zb}(q:BU n PRE vs H Q E)(hb:∀xs h φ,PRE xs h φ->SS (xs++pk (N.length-xs.length) .no) h t ⟨fun _ h'=>φ (.im nv) h',φ,fun _ _=>False,fun _ _=>False⟩):
  t (cf Q) (start N vs) H:=by
 obtain⟨xs,h,φ,m,_,rfl,h1,W,hx,hpre,f⟩:=q;have hl:vs.length=xs.length:=Paired.length hx;refine hb xs h φ hpre (CA m h (h.map fun p=>(p.1,m.ad p.1))) [] (start N vs) [] _ _ (fun _ z=>z) ⟨m,rfl,⟨.refl _,fun _ _ e _ _=>e,fun _ e=>e,fun _ e=>.inl e,fun _ _ _ _ _ e=>e,fun _=>Iff.rfl,fun n c e=>.inr (.inl ⟨n,c,e,rfl⟩),fun n a e=>?_⟩,W,by unfold L2.start;simp[hl],fun i x e=>?_,.nil⟩ ⟨?_,?_,fun _ _ _ _ z=>z.elim,fun _ _ _ _ z=>z.elim⟩
 ·obtain⟨⟨k,c⟩,e1,e2⟩:=aU.mp e;cases e2;exact⟨h1 k c e1,rfl,c,e1⟩
 ·by_cases z:i<xs.length
  ·rw[nD z]at e;obtain⟨v,hv,hk⟩:=Paired.get (R:=fun v x=>Ok m h x v) hx e;refine .inr ⟨v,?_,hk⟩;unfold L2.start;rw[nD (by simpa[hl]using z),cA,hv];rfl
  ·rw[jy (by omega)]at e;exact .inl (List.eq_of_mem_replicate (bU e))
 ·rintro s h' σ H' q ⟨m',rfl,R⟩;exact f (.im nv) .non h' m' q R.fr R.wf rfl
 ·rintro x h' v H' q ⟨m',rfl,R⟩;exact f x v h' m' q R.fr R.wf R.top
theorem ifB{b:Bool}{X Y:Prop}(h1:b=true->X)(h2:b=false->Y):if b=true then X else Y:=by
 cases b with
 |true=>exact cQ (h1 rfl)
 |false=>exact bE (h2 rfl)
section
variable{K:Za}{s:List Sl}{h:SH}{φ φ':Sl->SH->Prop}{ψ ψ':Bool->SH->Prop}{ta tb te tl:TE}{g:TG}{tc:TT}{k:Nat}{fi:List Nat}
theorem zF(q:EV s h te φ)(z:∀x h',φ x h'->φ' x h'):EV s h te φ':=fun B T σ vs H Q a k=>q B T σ vs H Q a fun b v h1 H1 hb a1=>k b v h1 H1 (z b h1 hb) a1
theorem mh{α β:Type}{xs:List α}{i:Nat}{a:α}(h:xs[i]?=some a)(p:α->Bool)(f:α->β):((xs.take (i+1)).filter p).map f=((xs.take i).filter p).map f++(if p a=true then[f a]else[]):=by
 rw[take_snoc h,qd,aM];by_cases c:p a=true
 ·rw[if_pos c];simp[List.filter,c]
 ·rw[if_neg c];simp[List.filter,c]
def BK(K:Za)(s:List Sl)(h:SH)(φ:Sl->SH->Prop)(k:Nat)(fi:List Nat)(g:TG)(tc:TT)(te:TE)(α:Type)(xs:List α)(enc:α->AV)(p:α->Bool)(f:α->AV):Prop :=
 xs.length<=1000000/\(∀a∈xs,EG (cS k fi s) h (.im (enc a)) g fun sc h2=>ET sc h2 tc fun b h3=>b=p a/\(p a=true->EV sc h3 te fun y _=>y=.im (f a)))/\yj K h φ (((xs.filter p).map f).map .im)
theorem oC{α:Type}{xs:List α}{enc:α->AV}{p:α->Bool}{f:α->AV}(q:BK K s h φ k fi g tc te α xs enc p f):(xs.map enc).length<=1000000/\∃I:Nat->List AV->Prop,I 0 [] /\
  (∀i acc,i<(xs.map enc).length->I i acc->EG (cS k fi s) h (.im (vh (xs.map enc) i)) g fun sc h2=>ET sc h2 tc fun b h3=>if b=true then EV sc h3 te fun y _=>∃a,y=.im a/\I (i+1) (acc++[a])else I (i+1) acc)/\(∀acc,I (xs.map enc).length acc->yj K h φ (acc.map .im)):=by
 obtain⟨hz,st,fin⟩:=q;refine⟨by rw[ap];exact hz,fun i acc=>acc=((xs.take i).filter p).map f,by simp,fun i acc hi e=>?_,fun acc e=>?_⟩
 ·rw[ap]at hi;have ha:xs[i]?=some xs[i]:=by simp[hi]
  have el:vh (xs.map enc) i=enc xs[i]:=by unfold vh;rw[m5,cA,ha];rfl
  rw[el];have:=st xs[i] (List.getElem_mem hi);intro B T σ vs v H Q a k;refine this B T σ vs v H Q a fun sc σ' h2 H' q' a'=>k sc σ' h2 H' (fun B T σ vs H Q a k=>q' B T σ vs H Q a fun b h3 H1 ⟨e1,e2⟩ a1=>k b h3 H1 ?_ a1) a';subst e1;by_cases c:p xs[i]=true
  ·rw[if_pos c];intro B T σ vs H Q a k;refine e2 c B T σ vs H Q a fun y v h4 H1 ey a1=>k y v h4 H1 ⟨f xs[i],ey,?_⟩ a1;show acc++[f xs[i]]=((xs.take (i+1)).filter p).map f;rw[e,mh ha,if_pos c]
  ·rw[if_neg c];show acc=((xs.take (i+1)).filter p).map f;rw[e,mh ha,if_neg c,i9]
 ·have e':acc=((xs.take (xs.map enc).length).filter p).map f:=e;rw[ap,c9]at e';rw[e'];exact fin
theorem on(q:EV s h tl fun x h1=>∃(α:Type) (xs:List α) (enc:α->AV) (p:α->Bool) (f:α->AV) (a:AV),x=.im a/\yg K a true (xs.map enc)/\BK K s h1 φ k fi g tc te α xs enc p f):EV s h (c8 k fi (cU K tl) g tc te) φ:=by
 refine wB (K:=K) (mS (K:=K) ?_);exact zF q fun x h1 ⟨α,xs,enc,p,f,a,e,i,c⟩=>⟨a,_,e,i,oC c⟩
theorem tL{α:Type}{xs:List α}{f:α->DT}:yg K (dv K (.s (xs.map f))) true (xs.map fun a=>dv K (f a)):=by
 have:=yg.s (K:=K) (ds:=xs.map f);rw[cR]at this;exact this
theorem Dh{α:Type}{xs:List α}{f:α->DT}:yg K (dv K (.t (xs.map f))) false (xs.map fun a=>dv K (f a)):=by
 have:=yg.t (K:=K) (ds:=xs.map f);rw[cR]at this;exact this
theorem h_{ds:List DT}(q:φ (bQ K (.s ds)) h):yj K h φ (ds.map (bQ K)):=.inl ⟨ds,t4 ds,q⟩
theorem u5{α:Type}{xs:List α}{f:α->DT}(q:φ (bQ K (.s (xs.map f))) h):yj K h φ ((xs.map fun a=>dv K (f a)).map .im):=by
 have e:(xs.map fun a=>dv K (f a)).map Sl.im=(xs.map f).map (bQ K):=by rw[cR,cR];rfl
 rw[e];exact h_ q
end
theorem wA{m:Mp}{H':Hp}(W:Wf m [])(e:ae m.H H'):Fr (CA m [] []) { m with H:=H' } []/\Wf { m with H:=H' } []:=by
 have al:∀a,m.H a≠none->H' a≠none:=fun a h=>by
  cases q:m.H a with
  |none=>exact absurd q h
  |some u=>rw[e a u q];exact nofun
 exact⟨⟨.refl _,fun a u h _ _=>e a u h,al,fun a h=>.inl h,fun q d u _ _ h=>h.ex e,fun _=>Iff.rfl,(fun _ _ e=>nomatch e),(fun _ _ e=>nomatch e)⟩,⟨W.s.trans e,fun a h=>⟨(W.p a h).1,al a (W.p a h).2⟩,(fun _ _ e=>nomatch e),(fun _ _ _ _ e=>nomatch e),ir⟩⟩
theorem tS{m:Mp}{H':Hp}{Q:VK}{φ:Sl->SH->Prop}{l:Addr}{us:List V}{xs:List Sl}(W:Wf m [])(f:Fin m [] Q φ)(F1:Fr (CA m [] []) { m with H:=H' } [])(W1:Wf { m with H:=H' } [])(hl:m.H l=none)(e:H' l=some (.lst us))(hx:∀x∈xs,plain x)(o:jX { m with H:=H' } [] us xs)(q:φ (.lc 0) [(0,.lst xs)]):Q (.ref l) H':=by
 have gl:m.G l=none:=W.s.free hl;have pl:¬m.P l:=fun z=>(W.p l z).2 hl;have o':jX ⟨m.G,H',fun _=>l,m.P⟩ [(0,.lst xs)] us xs:=i5 (m:={ m with H:=H' }) (m':=⟨m.G,H',fun _=>l,m.P⟩) rfl rfl rfl hx o;refine f (.lc 0) (.ref l) [(0,.lst xs)] ⟨m.G,H',fun _=>l,m.P⟩ q ⟨F1.gg,F1.hh,F1.al,F1.fr,F1.pe,F1.pp,fun n c z=>.inl hl,(fun _ _ e=>nomatch e)⟩ ⟨W1.s,W1.p,fun n c z=>?_,fun n c n' c' z z' _=>?_,by simp⟩ ⟨⟨_,bY⟩,rfl⟩
 ·have:(n,c)=(0,Ce.lst xs):=by simpa using z
  cases this;exact⟨gl,pl,us,e,o'⟩
 ·have h1:(n,c)=(0,Ce.lst xs):=by simpa using z
  have h2:(n',c')=(0,Ce.lst xs):=by simpa using z'
  cases h1;cases h2;rfl
section
variable{K:Za}
theorem wc{R:V->Sl->Prop}{us:List V}{x:Sl}(h:Paired R us [x]):∃u,us=[u]/\R u x:=by cases h with|cons h1 h2=>cases h2;exact⟨_,rfl,h1⟩
theorem rk(ds:List DT):∀x∈ds.map (bQ K),plain x:=fun x hx=>by
 obtain⟨d,_,rfl⟩:=aU.mp hx;exact dY
theorem zc{m:Mp}{h:SH}(ws:Zb):jX m h (ws.map V.str) ((ws.map aP).map (bQ K)):=wg (fI ws)
theorem AR{C:Addr}{J0 J1 J2:Zb}{ds:List ar}{m:Str}(hm:m="is_quiet"∨m="goals"∨m="led_from"∨m="rooms"∨m="asks"∨m="says"∨m="doors"∨m="doors_from"):DC C m (mv C J0 J1 J2 ds):=by
 rintro G v ⟨x,rfl,h⟩;obtain⟨dx,fs,o1,o2,o3,o4,lv,qu,sg,sl,ts,lps,gps,sps,g1,a1,a2,a3,a4,_⟩:=h.at_;obtain⟨dx',fs',g1',e1,e2,e3,e4⟩:=h.more;rw[g1]at g1';cases g1';refine⟨x,dx,fs,rfl,g1,?_⟩;rcases hm with h|h|h|h|h|h|h|h<;>subst h<;>assumption
theorem om{m:Mp}{Q:VK}{φ:Sl->SH->Prop}{l:Addr}{ws:Zb}(W:Wf m [])(f:Fin m [] Q φ)(hl:m.H l=none)(q:φ (.lc 0) [(0,.lst ((ws.map aP).map (bQ K)))]):Q (.ref l) (upd m.H l (.lst (ws.map V.str))):=by
 obtain⟨F,W'⟩:=wA W (ae.new (o:=.lst (ws.map V.str)) hl);exact tS W f F W' hl aa (rk _) (zc ws) q
theorem Bb{C:Addr}{J0 J1 J2:Zb}{ds:List ar}:Cn (iY C) [.im (mv C J0 J1 J2 ds)] [] (fun r h'=>r=.lc 0/\h'=[(0,.lst ((J0.map aP).map (bQ K)))]):=by
 intro us m Q E _ W hx f;obtain⟨u,rfl,x,rfl,hm⟩:=wc hx;exact⟨x,J0,J1,J2,ds,rfl,hm.same W.s,fun l hl=>om (K:=K) W f hl ⟨rfl,rfl⟩⟩
theorem Ba{C:Addr}{J0 J1 J2:Zb}{ds:List ar}:Cn (iT C) [.im (mv C J0 J1 J2 ds)] [] (fun r h'=>r=.lc 0/\h'=[(0,.lst ((J1.map aP).map (bQ K)))]):=by
 intro us m Q E _ W hx f;obtain⟨u,rfl,x,rfl,hm⟩:=wc hx;exact⟨x,J0,J1,J2,ds,rfl,hm.same W.s,fun l hl=>om (K:=K) W f hl ⟨rfl,rfl⟩⟩
theorem zV{C:Addr}{J0 J1 J2:Zb}{ds:List ar}:Cn (gC C) [.im (mv C J0 J1 J2 ds)] [] (fun r h'=>r=.lc 0/\h'=[(0,.lst ((J2.map aP).map (bQ K)))]):=by
 intro us m Q E _ W hx f;obtain⟨u,rfl,x,rfl,hm⟩:=wc hx;exact⟨x,J0,J1,J2,ds,rfl,hm.same W.s,fun l hl=>om (K:=K) W f hl ⟨rfl,rfl⟩⟩
theorem ky{s:List Sl}{h:SH}{φ:Sl->SH->Prop}{te:TE}{C:Addr}{mt:Str}{sp:Sp}{J0 J1 J2:Zb}{ds:List ar}{L:List DT}(hm:mt="is_quiet"∨mt="goals"∨mt="led_from"∨mt="rooms"∨mt="asks"∨mt="says"∨mt="doors"∨mt="doors_from")
  (c:Cn sp [.im (mv C J0 J1 J2 ds)] [] (fun r h'=>r=.lc 0/\h'=[(0,.lst (L.map (bQ K)))])) (q:EV s h te fun x h1=>x=.im (mv C J0 J1 J2 ds)/\yj K h1 φ (L.map (bQ K))):EV s h (gB C mt sp [] E0 te bz) φ:=by
 refine AZ (K:=K) (zF q fun x h1 ⟨e,z⟩=>⟨_,e,AR hm,ej ⟨(fun _ y=>nomatch y),Cn.imp c fun r h' ⟨e1,e2⟩=>.inr ⟨0,_,e1,?_,rk _,z⟩⟩⟩);rw[e2];rfl
end
def oU(K:Za):TS :=
 aw (aV V0 (iH K 3 (bq U1 (bq U2 (bq U3 (ig))))))
 (bt (v3 K "str" (pM K) (tC (.str " ")) (aF (aL nV (aL nV (eF (aF V1)) (de (cJ K) (aF V2))) (eF (aF V3))))))
def ph:List Str:=["door","start","sign","goal"]
def Ak(K:Za)(C_Machine:Addr)(sp_Machine_doors:Sp)(sp_row_of_door:Sp)(sp_Machine_rooms:Sp)(sp_Machine_says:Sp)(sp_Machine_asks:Sp):TS :=
 aw (aV (eF (au (aL nV (eF (aF (tC (.str "asks")))) (gB C_Machine "asks" sp_Machine_asks [] E0 V0 bz)) (au (aL nV (eF (aF (tC (.str "says")))) (gB C_Machine "says" sp_Machine_says [] E0 V0 bz)) (au (aL nV (eF (aF (tC (.str "rooms")))) (gB C_Machine "rooms" sp_Machine_rooms [] E0 V0 bz)) bz)))) U1)
 (aw (aV (aL nV (c8 1 [] (cU K V1) U0 (gS) (v3 K "str" (pM K) (tC (.str " ")) (aF V0))) (c8 1 [] (cU K (gB C_Machine "doors" sp_Machine_doors [] E0 V0 bz)) U0 (gS) (aZ sp_row_of_door (aF V0)))) U2)
 (bt (v3 K "str" (pM K) (tC (.str "")) (aF (c8 1 [] (cU K V2) U0 (gS) (aL f6 V0 (tC (.str "\n"))))))))
def Bf:List Str:=["M","rows","lines"]
def mr(K:Za):TS :=
 bt (de (cJ K) (aF (sT K V0 "own_doors")))
def mH:List Str:=["self"]
def sQ(K:Za)(sp_law_same:Sp):TS :=
 aw (du (tB (yC V1)) (bt (yC V0)) (bT))
 (aw (du (tB (de (mC K) (br V1 (tC (.ty "bool"))))) (bt (jl (de (mC K) (br V0 (tC (.ty "bool")))) (aL (yW K) V0 V1))) (bT))
 (aw (du (tB (de (mC K) (br V1 (tC (.ty "str"))))) (bt (jl (de (mC K) (br V0 (tC (.ty "str")))) (aL (yW K) V0 V1))) (bT))
 (aw (du (tB (de (mC K) (br V1 (tC (.ty "int"))))) (bt (jl (de (mC K) (br V0 (tC (.ty "int")))) (jl (yB (de (mC K) (br V0 (tC (.ty "bool"))))) (aL (yW K) V0 V1)))) (bT))
 (aw (du (yF (tB (de (mC K) (br V1 (tC (.ty "tuple"))))) (qN (tB (de (mC K) (br V0 (tC (.ty "tuple"))))))) (bt (tC (.bl false))) (bT))
 (aw (du (yF (tB (de (mC K) (br V1 (tC (.ty "list"))))) (qN (tB (de (mC K) (br V0 (tC (.ty "list"))))))) (bt (tC (.bl false))) (bT))
 (aw (du (cT (aL CK (de (dX K) (aF V0)) (de (dX K) (aF V1)))) (bt (tC (.bl false))) (bT))
 (bt (de (yY K) (au (c8 2 [] (wv K (br V0 V1)) (iH K 2 (bq U0 (bq U1 (ig)))) (gS) (aZ sp_law_same (br V0 V1))) bz)))))))))
def oW(K:Za):TS :=
 aw (aV V0 (iH K 4 (bq U1 (bq U2 (bq U3 (bq U4 (ig)))))))
 (aw (aV (tC (.str "")) U5)
 (aw (fP (cU K (eF (i_ (fz (br (tC (.str "asks")) V1)) (fz (br (tC (.str "says")) V2)) (fz (br (tC (.str "rooms")) V3))))) (iH K 2 (bq U6 (bq U7 (ig)))) (aw (aV (aL f6 V5 V6) U5)
 (aw (fP (cU K V7) U8 (aV (aL f6 (aL f6 V5 (tC (.str " "))) V8) U5))
 (aV (aL f6 V5 (tC (.str "\n"))) U5))))
 (aw (fP (cU K V4) (iH K 3 (bq U9 (bq U10 (bq U11 (ig))))) (aw (aV (aL f6 V5 V9) U5)
 (aw (fP (Ci K CM) U12 (aV (aL f6 (aL f6 V5 (tC (.str " "))) DP) U5))
 (aV (aL f6 (aL f6 (aL f6 V5 (tC (.str " "))) DQ) (tC (.str "\n"))) U5))))
 (bt V5))))
def pi:List Str:=["told","asks","says","rooms","doors","found","head","some","name","room","sign","other","word"]
def t9:List Str:=["found","due"]
theorem sY{K:Za}{G:Hp}{ys:Zb}:∀{us:List V},DRs K G (ys.map aP) us->us=ys.map V.str:=by
 induction ys with
 |nil=>intro us q;unfold DRs at q;exact q
 |cons y ys ih =>
  intro us q;rw[aS]at q;unfold DRs at q;obtain⟨v,us,rfl,q1,q2⟩:=q;unfold aP DR at q1;rw[ih q2,q1];rfl
theorem Cw{G:Hp}{bs:List Bool}:∀{us:List V},Paired (fun v (x:AV)=>x.p G v) us (bs.map bv)->us=bs.map V.bl:=by
 induction bs with
 |nil=>intro us r;cases r;rfl
 |cons b bs ih =>
  intro us r;cases r with
  |cons r1 r2 =>
   have r1':_=V.bl b:=r1;rw[r1',ih r2];rfl
section
variable{K:Za}{s:List Sl}{h:SH}{φ:Sl->SH->Prop}{ta tb te:TE}
theorem dP(q:EV s h ta fun x h1=>EV s h1 tb fun y h2=>∃i j:Str,x=bQ K (aP i)/\y=bQ K (aP j)/\i.length+j.length<=aj/\φ (bQ K (aP (i++j))) h2):EV s h (aL f6 ta tb) φ:=by
 intro B T σ vs H Q a k;refine q B T σ vs H _ a fun x u h1 H1 q1 a1=>q1 B _ σ _ H1 _ a1 fun y v h2 H2 q2 a2=>?_;obtain⟨i,j,rfl,rfl,hz,c⟩:=q2;obtain⟨e1,a3⟩:=vU a2;obtain⟨e2,a4⟩:=vU a3;exact⟨i,j,e2,e1,hz,k _ _ h2 _ c (a4.pushI (lh (K:=K)))⟩
theorem rN{z:Str}(q:EV s h te fun x h1=>∃ys:List Str,BI K h1 x true (ys.map aP)/\(ys.map (·.length)).sum+ys.length * z.length<=16777216/\φ (bQ K (aP (jr z ys))) h1):EV s h (v3 K "str" (pM K) (tC (.str z)) (au te bz)) φ:=by
 intro B T σ vs H Q a k;refine⟨rfl,q B T σ vs H _ a fun x u h1 H1 ⟨ys,iq,hz,c⟩ a1=>?_⟩;obtain⟨m,rfl,R⟩:=a1;obtain⟨p,us,rfl,hd,g1,_⟩:=iq.v.view R.wf R.top;have:=sY (BF hd);subst this;exact⟨z,p,ys,rfl,rfl,aA.of (g1 rfl),hz,k _ _ h1 _ c (R.drop.push (lh (K:=K) m.G))⟩
def tyD:DT->String
 |.k (.inl _)=>"int"
 |.k (.inr _)=>"str"
 |.t _=>"tuple"
 |.s _=>"list"
theorem cx{c:String}(q:EV s h te fun x h1=>∃d b,x=bQ K d/\sC K (.type (tyD d)) (.type c)=some b/\φ (.im (bv b)) h1):EV s h (de (mC K) (au te (aF (tC (.ty c))))) φ:=by
 intro B T σ vs H Q a k;refine q B T σ vs H _ a fun x u h1 H1 ⟨d,b,e,hb,q1⟩ a1=>?_;subst e;obtain⟨m,rfl,R⟩:=a1;have o:DR K m.G d u:=R.top;refine⟨u,c,.type (tyD d),b,rfl,?_,hb,k _ _ h1 _ q1 (R.drop.push rfl)⟩;cases d with
 |k a =>
  unfold DR at o;subst o;cases a with
  |inl i=>exact .inl (jP.int i)
  |inr i=>exact .inl (jP.str i)
 |t l=>unfold DR at o;obtain⟨a,us,rfl,g,_⟩:=o;exact .inr (.inl ⟨a,us,rfl,rfl,bN.same R.wf.s g⟩)
 |s l=>unfold DR at o;obtain⟨a,us,rfl,g,_⟩:=o;exact .inr (.inr ⟨a,us,rfl,rfl,aA.of (R.wf.s _ _ g)⟩)
theorem Co(q:EV s h te fun x h1=>∃bs:List Bool,x=.im (lv (bs.map bv))/\φ (.im (bv (bs.all id))) h1):EV s h (de (yY K) (au te bz)) φ:=by
 intro B T σ vs H Q a k;refine q B T σ vs H _ a fun x u h1 H1 ⟨bs,e,c⟩ a1=>?_;subst e;obtain⟨m,rfl,R⟩:=a1;obtain⟨p,us,rfl,g,r⟩:=(show(lv (bs.map bv)).p m.G u from R.top);have:=Cw r;subst this;exact⟨p,bs,rfl,aA.of (R.wf.s _ _ g),k _ _ h1 _ c (R.drop.push rfl)⟩
def pQ(K:Za)(x:DT×DT):AV:=tv [dv K x.1,dv K x.2]
theorem Cp{Θ:Nat->(Nat->AV)->SH->Prop}(q:EV s h ta fun x h1=>EV s h1 tb fun y h2=>∃ds es:List DT,((x=bQ K (.s ds)/\y=bQ K (.s es))∨(x=bQ K (.t ds)/\y=bQ K (.t es)))/\ds.length=es.length/\Θ ((ds.zip es).map (pQ K)).length (vh ((ds.zip es).map (pQ K))) h2):EI s h (wv K (au ta (au tb bz))) Θ:=by
 intro B T σ vs H R a k;refine q B T σ vs H _ a fun x u h1 H1 q1 a1=>q1 B _ σ _ H1 _ a1 fun y v h2 H2 ⟨ds,es,hxy,hl,c⟩ a2=>?_;obtain⟨m,rfl,R2⟩:=a2;have R3:=R2.drop.drop;have nz:((ds.zip es).map (pQ K)).length=ds.length:=by rw[ap,List.length_zip,<-hl,Nat.min_self]
 have elat:∀{i:Nat}{d e:DT},ds[i]?=some d->es[i]?=some e->vh ((ds.zip es).map (pQ K)) i=pQ K (d,e):=fun{i d e} h1 h2=>by
  unfold vh;rw[m5,cA,(List.getElem?_zip_eq_some (z:=(d,e))).mpr ⟨h1,h2⟩];rfl
 have yl:∀{us ws:List V},DRs K m.G ds us->DRs K m.G es ws->∀(i:Nat) (m2:Mp) (hh:SH) (p:Addr) (a b:V),i<ds.length->ae m.G m2.G->ae m2.G m2.H->m2.H p=none->us[i]?=some a->ws[i]?=some b->∃m3:Mp,m3.H=upd m2.H p (.tup [a,b])/\Mv m2 hh m3 hh/\(vh ((ds.zip es).map (pQ K)) i).p m3.G (.ref p):=by
  intro us ws q1 q2 i m2 hh p a b hi s1 s2 hp ha hb;obtain⟨d,hd,o1⟩:=q1.getL ha;obtain⟨e,he,o2⟩:=q2.getL hb;rw[elat hd he];refine⟨_,rfl,Mv.new (o:=.tup [a,b]) s2 hp,p,[a,b],rfl,aa,?_⟩;have S:=s1.trans (ae.new (o:=.tup [a,b]) (s2.free hp));exact .cons (DR.same S o1) (.cons (DR.same S o2) .nil)
 rcases hxy with⟨rfl,rfl⟩|⟨rfl,rfl⟩
 ·have o1:DR K m.G (.s ds) u:=R2.drop.top;have o2:DR K m.G (.s es) v:=R2.top;unfold DR at o1 o2;obtain⟨b1,us,rfl,g1,q1⟩:=o1;obtain⟨b2,ws,rfl,g2,q2⟩:=o2;have l1:=q1.len;have l2:=q2.len;refine⟨b1,b2,rfl,.inl ⟨⟨us,aA.of (R3.wf.s _ _ g1)⟩,⟨ws,aA.of (R3.wf.s _ _ g2)⟩,k _ _ _ h2 m c R3 ⟨fun i G2 H2 hi s1 s2=>?_,fun G2 H2 s1 s2=>?_,fun i m2 hh x H3 hi s1 s2 y=>?_⟩⟩⟩
  ·rw[nz]at hi;exact⟨us,ws,us[i],ws[i],aA.of (s2 _ _ (s1 _ _ g1)),aA.of (s2 _ _ (s1 _ _ g2)),by simp[l1,hi],by simp[l2,<-hl,hi]⟩
  ·exact⟨us,ws,aA.of (s2 _ _ (s1 _ _ g1)),aA.of (s2 _ _ (s1 _ _ g2)),.inl (by rw[nz];omega)⟩
  ·obtain⟨p,a,b,rfl,hp,ha,hb,rfl⟩:=y;rw[nz]at hi;exact yl q1 q2 i m2 hh p a b hi s1 s2 hp (ha us (aA.of (s2 _ _ (s1 _ _ g1)))) (hb ws (aA.of (s2 _ _ (s1 _ _ g2))))
 ·have o1:DR K m.G (.t ds) u:=R2.drop.top;have o2:DR K m.G (.t es) v:=R2.top;unfold DR at o1 o2;obtain⟨b1,us,rfl,g1,q1⟩:=o1;obtain⟨b2,ws,rfl,g2,q2⟩:=o2;have l1:=q1.len;have l2:=q2.len;refine⟨b1,b2,rfl,.inr ⟨⟨us,bN.same R3.wf.s g1⟩,⟨ws,bN.same R3.wf.s g2⟩,k _ _ _ h2 m c R3 ⟨fun i G2 H2 hi s1 s2=>?_,fun G2 H2 s1 s2=>?_,fun i m2 hh x H3 hi s1 s2 y=>?_⟩⟩⟩
  ·rw[nz]at hi;exact⟨us,ws,us[i],ws[i],bN.same (s1.trans s2) g1,bN.same (s1.trans s2) g2,by simp[l1,hi],by simp[l2,<-hl,hi]⟩
  ·exact⟨us,ws,bN.same (s1.trans s2) g1,bN.same (s1.trans s2) g2,.inl (by rw[nz];omega)⟩
  ·obtain⟨p,a,b,rfl,hp,ha,hb,rfl⟩:=y;rw[nz]at hi;exact yl q1 q2 i m2 hh p a b hi s1 s2 hp (ha us (bN.same (s1.trans s2) g1)) (hb ws (bN.same (s1.trans s2) g2))
end
mutual
def DT.sm:DT->Bool
 |.k _=>true
 |.t l=>decide (l.length<=1000000) && DT.sms l
 |.s l=>decide (l.length<=1000000) && DT.sms l
def DT.sms:List DT->Bool
 |[]=>true
 |a::r=>DT.sm a && DT.sms r
end
theorem v4:∀{l:List DT}{d:DT},DT.sms l=true->d∈l->DT.sm d=true
 |a::r,d,h,e=>by
  have h':(DT.sm a && DT.sms r)=true:=h;rw[gQ]at h';rcases bg.mp e with e|e
  ·rw[e];exact h'.1
  ·exact v4 h'.2 e
def dH(K:Za)(n:Nat):Sp:=BU 2 fun xs h φ=>h=[]/\∃d e,xs=[bQ K d,bQ K e]/\d.depth<=n/\e.depth<=n/\n<=8/\DT.sm d=true/\φ (.im (bv (decide (d=e)))) []
theorem vQ:∀{ds es:List DT},ds.length=es.length->((ds.zip es).map fun x=>decide (x.1=x.2)).all id=decide (ds=es)
 |[],[],_=>rfl
 |[],_::_,e=>by cases e
 |_::_,[],e=>by cases e
 |d::ds,e::es,hl=>by
  rw[List.zip_cons_cons,aS,nh,vQ (by simpa using hl)];rw[lU,gQ];show(decide (d=e)=true/\_)↔_;rw[decide_eq_true_iff,decide_eq_true_iff,decide_eq_true_iff];exact⟨fun⟨a,b⟩=>by rw[a,b],fun z=>by injection z with a b;exact⟨a,b⟩⟩
theorem mj{n:Nat}{l:List DT}{d:DT}(h:DT.depths l<=n)(e:d∈l):d.depth<=n:=by
 obtain⟨i,hi,rfl⟩:=List.getElem_of_mem e;exact oq h (qj hi)
theorem pJ{K:Za}{n:Nat}{sp:Sp}(hsp:∀m,n=m+1->sp=dH K m){φ:Sl->SH->Prop}{ds es:List DT}{d e:DT}(hde:(d=.s ds/\e=.s es)∨(d=.t ds/\e=.t es))(h1:DT.depths ds+1<=n)(h2:DT.depths es+1<=n)(h8:n<=8)(hs:ds.length<=1000000/\DT.sms ds=true)(c:φ (.im (bv (decide (ds=es)))) []):
  SS [bQ K d,bQ K e] [] (aw (du (cT (aL CK (de (dX K) (aF V0)) (de (dX K) (aF V1)))) (bt (tC (.bl false))) (bT)) (bt (de (yY K) (au (c8 2 [] (wv K (br V0 V1)) (iH K 2 (bq U0 (bq U1 (ig)))) (gS) (aZ sp (br V0 V1))) bz)))) ⟨fun _ h'=>φ (.im nv) h',φ,fun _ _=>False,fun _ _=>False⟩:=by
 have iv:∃b,yf K [] (bQ K d) b (ds.map (bQ K))/\yf K [] (bQ K e) b (es.map (bQ K)):=by
  rcases hde with⟨rfl,rfl⟩|⟨rfl,rfl⟩
  ·exact⟨true,.s,.s⟩
  ·exact⟨false,.t,.t⟩
 obtain⟨b,i1,i2⟩:=iv;obtain⟨k,rfl⟩:∃k,n=k+1:=⟨n-1,by omega⟩;have e1:=hsp k rfl;subst e1;refine bu <| eI <| A1 <| Ck (K:=K) <| zE <| aq rfl ⟨_,_,i1,zE <| aq rfl ⟨_,_,i2,_,_,rfl,rfl,_,rfl,?_⟩⟩;rw[ap,ap];refine ifB (fun z=>?_) (fun z=>?_)
 ·refine fB <| tT ?_;have:decide (ds=es)=false:=zzr0 fun y=>by rw[y]at z;simp at z
  rw[this]at c;exact c
 ·have hl':(ds.length:Int)=es.length:=by simpa using z
  have hl:ds.length=es.length:=by omega
  refine fC <| fB <| Co <| wB (K:=K) <| Cp (K:=K) <| aq rfl <| aq rfl ⟨ds,es,?_,hl,oC (xs:=ds.zip es) (p:=fun _=>true) (f:=fun x=>bv (decide (x.1=x.2))) ⟨?_,fun x hx=>?_,.inr (.inl ⟨(ds.zip es).map fun x=>bv (decide (x.1=x.2)),?_,(ds.zip es).map fun x=>decide (x.1=x.2),?_,?_⟩)⟩⟩
  ·rcases hde with⟨rfl,rfl⟩|⟨rfl,rfl⟩
   ·exact .inl ⟨rfl,rfl⟩
   ·exact .inr ⟨rfl,rfl⟩
  ·rw[List.length_zip];omega
  ·obtain⟨x1,x2⟩:=x;have m1:=(sy hx).1;have m2:=(sy hx).2;refine wD (K:=K) .w rfl <| cb <| aR <| cb <| aR <| kz <| rP ⟨rfl,fun _=>?_⟩;refine wC (K:=K) <| bB <| aq rfl <| bB <| aq rfl <| ej ⟨by simp[plain],Cn.imp (Dq (φ:=fun r _=>r=.im (bv (decide (x1=x2)))) ⟨rfl,x1,x2,rfl,mj (by omega) m1,mj (by omega) m2,by omega,v4 hs.2 m1,rfl⟩) fun r h' e=>.inl ⟨_,e,e⟩⟩
  ·have fl:(ds.zip es).filter (fun _=>true)=ds.zip es:=List.filter_eq_self.mpr fun _ _=>rfl;rw[fl];generalize(ds.zip es).map (fun x=>bv (decide (x.1=x.2)))=L
   induction L with
   |nil=>exact .nil
   |cons a L ih=>exact .cons ih
  ·rw[cR];rfl
  ·rw[vQ hl];exact c
theorem yO{K:Za}{n:Nat}{sp:Sp}(hsp:∀m,n=m+1->sp=dH K m){vs:List V}{H:Hp}{Q:VK}{E:XK}(q:dH K n vs H Q E):sQ K sp (cf Q) (start t9 vs) H:=by
 refine body q ?_;rintro _ _ φ ⟨rfl,d,e,rfl,h1,h2,h8,hs,c⟩;refine bu <| eI <| g9 <| Cm <| aq rfl ⟨_,.d,_,rfl,bE <| fC ?_⟩;have no:¬d=e->φ (.im (bv false)) []:=fun z=>by rw[zzr0 z]at c;exact c
 cases e with
 |k a =>
  cases a with
  |inl i =>
   refine bu <| eI <| g9 <| cx <| aq rfl ⟨_,false,rfl,rfl,_,rfl,bE <| fC ?_⟩;refine bu <| eI <| g9 <| cx <| aq rfl ⟨_,false,rfl,rfl,_,rfl,bE <| fC ?_⟩;refine bu <| eI <| g9 <| cx <| aq rfl ⟨_,true,rfl,rfl,_,rfl,cQ <| fB <| rO <| cx <| aq rfl ?_⟩;cases d with
   |k b =>
    cases b with
    |inl j=>exact⟨_,true,rfl,rfl,_,rfl,cQ <| rO <| AY <| cx <| aq rfl ⟨_,false,rfl,rfl,_,rfl,_,rfl,cQ <| zG <| aq rfl <| aq rfl ⟨_,_,.d,.d,cy _,cy _,c⟩⟩⟩
    |inr j=>exact⟨_,false,rfl,rfl,_,rfl,bE <| no nofun⟩
   |t l=>exact⟨_,false,rfl,rfl,_,rfl,bE <| no nofun⟩
   |s l=>exact⟨_,false,rfl,rfl,_,rfl,bE <| no nofun⟩
  |inr i =>
   refine bu <| eI <| g9 <| cx <| aq rfl ⟨_,false,rfl,rfl,_,rfl,bE <| fC ?_⟩;refine bu <| eI <| g9 <| cx <| aq rfl ⟨_,true,rfl,rfl,_,rfl,cQ <| fB <| rO <| cx <| aq rfl ?_⟩;cases d with
   |k b =>
    cases b with
    |inl j=>exact⟨_,false,rfl,rfl,_,rfl,bE <| no nofun⟩
    |inr j=>exact⟨_,true,rfl,rfl,_,rfl,cQ <| zG <| aq rfl <| aq rfl ⟨_,_,.d,.d,cy _,cy _,c⟩⟩
   |t l=>exact⟨_,false,rfl,rfl,_,rfl,bE <| no nofun⟩
   |s l=>exact⟨_,false,rfl,rfl,_,rfl,bE <| no nofun⟩
 |t le =>
  refine bu <| eI <| g9 <| cx <| aq rfl ⟨_,false,rfl,rfl,_,rfl,bE <| fC ?_⟩;refine bu <| eI <| g9 <| cx <| aq rfl ⟨_,false,rfl,rfl,_,rfl,bE <| fC ?_⟩;refine bu <| eI <| g9 <| cx <| aq rfl ⟨_,false,rfl,rfl,_,rfl,bE <| fC ?_⟩;refine bu <| eI <| rQ <| g9 <| cx <| aq rfl ⟨_,true,rfl,rfl,_,rfl,cQ <| zH <| g9 <| cx <| aq rfl ?_⟩;cases d with
  |k b=>cases b<;>exact⟨_,false,rfl,rfl,_,rfl,cQ <| fB <| tT <| no nofun⟩
  |s l=>exact⟨_,false,rfl,rfl,_,rfl,cQ <| fB <| tT <| no nofun⟩
  |t ld =>
   refine⟨_,true,rfl,rfl,_,rfl,bE <| fC <| bu <| eI <| rQ <| g9 <| cx <| aq rfl ⟨_,false,rfl,rfl,_,rfl,bE <| bE <| fC ?_⟩⟩;have r:=pJ (K:=K) (φ:=φ) (ds:=ld) (es:=le) hsp (.inr ⟨rfl,rfl⟩) h1 h2 h8 ?_ ?_
   ·exact r
   ·have:(decide (ld.length<=1000000) && DT.sms ld)=true:=hs;rw[gQ]at this;exact⟨of_decide_eq_true this.1,this.2⟩
   ·have:decide (DT.t ld=DT.t le)=decide (ld=le):=by
     rw[lU,decide_eq_true_iff,decide_eq_true_iff];exact⟨fun z=>by injection z,fun z=>by rw[z]⟩
    rw[this]at c;exact c
 |s le =>
  refine bu <| eI <| g9 <| cx <| aq rfl ⟨_,false,rfl,rfl,_,rfl,bE <| fC ?_⟩;refine bu <| eI <| g9 <| cx <| aq rfl ⟨_,false,rfl,rfl,_,rfl,bE <| fC ?_⟩;refine bu <| eI <| g9 <| cx <| aq rfl ⟨_,false,rfl,rfl,_,rfl,bE <| fC ?_⟩;refine bu <| eI <| rQ <| g9 <| cx <| aq rfl ⟨_,false,rfl,rfl,_,rfl,bE <| bE <| fC ?_⟩;refine bu <| eI <| rQ <| g9 <| cx <| aq rfl ⟨_,true,rfl,rfl,_,rfl,cQ <| zH <| g9 <| cx <| aq rfl ?_⟩;cases d with
  |k b=>cases b<;>exact⟨_,false,rfl,rfl,_,rfl,cQ <| fB <| tT <| no nofun⟩
  |t l=>exact⟨_,false,rfl,rfl,_,rfl,cQ <| fB <| tT <| no nofun⟩
  |s ld =>
   refine⟨_,true,rfl,rfl,_,rfl,bE <| fC ?_⟩;have r:=pJ (K:=K) (φ:=φ) (ds:=ld) (es:=le) hsp (.inl ⟨rfl,rfl⟩) h1 h2 h8 ?_ ?_
   ·exact r
   ·have:(decide (ld.length<=1000000) && DT.sms ld)=true:=hs;rw[gQ]at this;exact⟨of_decide_eq_true this.1,this.2⟩
   ·have:decide (DT.s ld=DT.s le)=decide (ld=le):=by
     rw[lU,decide_eq_true_iff,decide_eq_true_iff];exact⟨fun z=>by injection z,fun z=>by rw[z]⟩
    rw[this]at c;exact c
theorem fX(a b c:Str):a++b++c=a++(b++c):=j7 (by simp[cZ])
theorem C4(a:Str):a++("":Str)=a:=j7 (by rw[cZ];exact i9 _)
theorem Dd(a:Str):("":Str)++a=a:=j7 (by rw[cZ];rfl)
theorem d9(a b:Str):(a++b).length=a.length+b.length:=by rw[cB,cB,cB,cZ,bd]
def zw(z:Str):List Str->Str
 |[]=>""
 |y::ys=>ys.foldl (fun a p=>a++z++p) y
theorem lD(z:Str)(ys:Zb):jr z ys=zw z ys:=by
 unfold jr cD.Str.glued;cases ys with
 |nil=>rfl
 |cons y ys =>
  have:∀(ys:Zb) (y:Str),(⟨ys.foldl (fun acc p=>acc++z.cps++p.cps) y.cps⟩:Str)=ys.foldl (fun a p=>a++z++p) y:=by
   intro ys
   induction ys with
   |nil=>intro y;rfl
   |cons x ys ih=>intro y;rw[kJ,kJ,<-ih];rfl
  exact this ys y
def df(ws:Zb):Str:=zw " " ws
def bZ(rows:List (List Str)):Str:=rows.foldl (fun acc r=>acc++(df r++"\n")) ""
theorem jz(rows:List (List Str))(r:Zb):bZ (rows++[r])=bZ rows++(df r++"\n"):=by unfold bZ;rw[m8];rfl
theorem zv(ls:Zb):zw "" ls=ls.foldl (fun(a p:Str)=>a++p) ("":Str):=by
 cases ls with
 |nil=>rfl
 |cons y ys =>
  have e:(fun(a p:Str)=>a++("":Str)++p)=fun(a p:Str)=>a++p:=by funext a p;rw[C4]
  show ys.foldl (fun(a p:Str)=>a++("":Str)++p) y=ys.foldl (fun(a p:Str)=>a++p) (("":Str)++y);rw[e,Dd]
theorem xf(rows:List (List Str)):zw "" ((rows.map df).map fun l=>l++"\n")=bZ rows:=by
 rw[zv,cR,List.foldl_map];rfl
theorem ft:∀(ys:Zb) (y:Str),(∀w∈ys,w.length<=8)->(ys.foldl (fun(a p:Str)=>a++(" ":Str)++p) y).length<=y.length+9 * ys.length
 |[],y,_=>by simp
 |p::ys,y,h=>by
  rw[kJ];have:=ft ys (y++(" ":Str)++p) fun w hw=>h w (cg _ hw);rw[d9,d9]at this;have h1:=h p bY;have h2:(" ":Str).length=1:=by decide +kernel
  rw[c6];omega
def mm(r:Zb):Prop:=r.length<=151/\∀w∈r,w.length<=8
theorem re{r:Zb}(h:mm r):(df r).length<=1359:=by
 cases r with
 |nil=>exact cy _
 |cons y ys =>
  have:=ft ys y fun w hw=>h.2 w (cg _ hw);have h1:=h.2 y bY;have h2:=h.1;rw[c6]at h2;show(ys.foldl _ y).length<=1359;omega
theorem Db:("\n":Str).length=1:=by decide +kernel
theorem qZ:(" ":Str).length=1:=by decide +kernel
theorem nH:∀{rows:List (List Str)},(∀r∈rows,mm r)->(bZ rows).length<=1360 * rows.length:=by
 intro rows;refine ix (fun rows=>(∀r∈rows,mm r)->(bZ rows).length<=1360 * rows.length) (fun _=>cy _) (fun rows r ih h=>?_) rows;have h1:=ih fun x hx=>h x (fx _ hx);have h2:=re (h r (by simp));rw[jz,d9,d9,Db,bd];show _<=1360 * (rows.length+1);omega
theorem mK{k:Nat}:∀{ys:Zb},(∀w∈ys,w.length<=k)->(ys.map (·.length)).sum<=k * ys.length
 |[],_=>by simp
 |y::ys,h=>by
  have h1:=mK fun w hw=>h w (cg _ hw);have h2:=h y bY;rw[aS,List.sum_cons,c6,Nat.mul_add];omega
def az(d:ar):List Str:=d.a::d.sg++[d.b]
def aO(J0 J1 J2:Zb):List (List Str):=[("asks":Str)::J0,("says":Str)::J1,("rooms":Str)::J2]
def aJ(J0 J1 J2:Zb)(ds:List ar):List (List Str):=aO J0 J1 J2++ds.map az
section
variable{J0 J1 J2:Zb}{ds:List ar}
theorem aI.door(m:aI J0 J1 J2 ds){d:ar}(hd:d∈ds):mm (az d):=by
 obtain⟨a,b,sg⟩:=m.good d hd;have nm:∀{w ws},fh ws->w∈ws->w.length<=8:=fun h e=>(h.2 _ e).hi;have h1:=nm m.okR a;have h2:=nm m.okR b;unfold az;rcases sg with⟨w,hw,e⟩|⟨w,hw,e⟩|e
 ·rw[e];have h3:=nm m.okA hw;refine⟨by simp,fun x hx=>?_⟩;have hx':x=d.a∨x=("ask":Str)∨x=w∨x=d.b:=by simpa using hx
  rcases hx' with rfl|rfl|rfl|rfl
  ·exact h1
  ·decide +kernel
  ·exact h3
  ·exact h2
 ·rw[e];have h3:=nm m.okS hw;refine⟨by simp,fun x hx=>?_⟩;have hx':x=d.a∨x=("say":Str)∨x=w∨x=d.b:=by simpa using hx
  rcases hx' with rfl|rfl|rfl|rfl
  ·exact h1
  ·decide +kernel
  ·exact h3
  ·exact h2
 ·rw[e];refine⟨by unfold a_;simp,fun x hx=>?_⟩;have hx':x=d.a∨x=("still":Str)∨x=d.b:=by unfold a_ at hx;simpa using hx
  rcases hx' with rfl|rfl|rfl
  ·exact h1
  ·decide +kernel
  ·exact h2
theorem rJ{hd:Str}{ws:Zb}(h:fh ws)(hl:ws.length<=150)(hh:hd.length<=8):mm (hd::ws):=⟨by rw[c6];omega,fun x hx=>by
 rcases bg.mp hx with rfl|hx
 ·exact hh
 ·exact(h.2 _ hx).hi⟩
theorem aI.heads(m:aI J0 J1 J2 ds):∀r∈aO J0 J1 J2,mm r:=fun r hr=>by
 have h1:=m.asks4;have h2:=m.says4;have hr':r=("asks":Str)::J0∨r=("says":Str)::J1∨r=("rooms":Str)::J2:=by unfold aO at hr;simpa using hr
 rcases hr' with rfl|rfl|rfl
 ·exact rJ m.okA (by omega) (by decide +kernel)
 ·exact rJ m.okS (by omega) (by decide +kernel)
 ·exact rJ m.okR m.rooms26 (by decide +kernel)
theorem aI.rows(m:aI J0 J1 J2 ds):∀r∈aJ J0 J1 J2 ds,mm r:=fun r hr=>by
 rcases bO.mp hr with h|h
 ·exact m.heads r h
 ·obtain⟨d,hd,rfl⟩:=aU.mp h;exact m.door hd
end
def uF(K:Za):Sp:=BU 1 fun xs h φ=>h=[]/\∃d,mm (az d)/\xs=[bQ K (g_ d)]/\φ (bQ K (aP (df (az d)))) []
theorem tI:(2000000:Nat)<=aj:=by decide
theorem BY{K:Za}{vs:List V}{H:Hp}{Q:VK}{E:XK}(q:uF K vs H Q E):oU K (cf Q) (start ph vs) H:=by
 refine body q ?_;rintro _ _ φ ⟨rfl,d,ok,rfl,c⟩;have k9:=tI;have hlen:d.sg.length+2<=151:=by have:=ok.1;unfold az at this;simp at this;omega
 refine bu <| fD <| aq rfl <| rS (K:=K) rfl <| cb <| aR <| cb <| aR <| cb <| aR <| kz ?_;refine fB <| rN (K:=K) <| lG (K:=K) <| lG (K:=K) <| jM (K:=K) <| bB <| aq rfl <| ej ⟨by show 1<=aj;decide,.inl ⟨_,.cons .nil,?_⟩⟩;refine A0 <| aq rfl ⟨_,_,.t,h_ ⟨_,_,.s,.s,?_,h_ ?_⟩⟩
 ·rw[ap];show 1+_<=_;omega
 refine jM (K:=K) <| bB <| aq rfl <| ej ⟨by show 1<=aj;decide,.inl ⟨_,.cons .nil,_,_,.s,.s,?_,h_ ⟨az d,?_,?_,?_⟩⟩⟩
 ·rw[bd,ap];show 1+_+1<=_;omega
 ·have e:[aP d.a]++d.sg.map aP++[aP d.b]=(az d).map aP:=by unfold az;simp
  rw[e];exact .s
 ·have h1:=mK ok.2;have h2:=ok.1;rw[qZ];omega
 ·rw[lD];exact c
def iy(C:Addr):Sp:=fun vs H Q _=>∃(x dx o4:Addr) (fs:List (Str×V)) (ts:Ze),vs=[.ref x]/\H x=some (.ins C dx fs)/\lk "own_doors" fs=some (.ref o4)/\H o4=some (.lst (ts.map V.ref))/\∀l,H l=none->Q (.ref l) (upd H l (.lst (ts.map V.ref)))
theorem yT{K:Za}{C:Addr}(M:MC K C){vs:List V}{H:Hp}{Q:VK}{E:XK}(h:iy C vs H Q E):mr K (cf Q) (start mH vs) H:=by
 obtain⟨x,dx,o4,fs,ts,rfl,g1,b4,a4,k⟩:=h;exact⟨_,rfl,x,C,dx,fs,.ref o4,rfl,g1,M.cls,M.a4,b4,.inl ⟨o4,_,rfl,.inl (aA.of a4),k⟩⟩
theorem zW{K:Za}{C:Addr}{J0 J1 J2:Zb}{ds:List ar}:Cn (iy C) [.im (mv C J0 J1 J2 ds)] [] (fun r h'=>r=.lc 0/\h'=[(0,.lst ((ds.map g_).map (bQ K)))]):=by
 intro us m Q E _ W hx f;obtain⟨u,rfl,x,rfl,hm⟩:=wc hx;obtain⟨dx,fs,o1,o2,o3,o4,lv,qu,sg,sl,ts,lps,gps,sps,g1,a1,a2,a3,a4,b1,b2,b3,b4,b5,b6,b7,b8,L,_⟩:=hm.at_;refine⟨x,dx,o4,fs,ts,rfl,W.s _ _ g1,b4,W.s _ _ L.a4,fun l hl=>?_⟩;obtain⟨F,W'⟩:=wA W (ae.new (o:=.lst (ts.map V.ref)) hl);exact tS W f F W' hl aa (rk _) (wg (i6 L.ds)) ⟨rfl,rfl⟩
def fE(K:Za)(C:Addr):Sp:=BU 1 fun xs h φ=>h=[]/\∃J0 J1 J2 ds,aI J0 J1 J2 ds/\xs=[.im (mv C J0 J1 J2 ds)]/\φ (bQ K (aP (bZ (aJ J0 J1 J2 ds)))) []
theorem lF{α:Type}(xs:List α):(xs.filter fun _=>true)=xs:=List.filter_eq_self.mpr fun _ _=>rfl
theorem yN{K:Za}{C:Addr}{vs:List V}{H:Hp}{Q:VK}{E:XK}(q:fE K C vs H Q E):Ak K C (iy C) (uF K) (gC C) (iT C) (iY C) (cf Q) (start Bf vs) H:=by
 refine body q ?_;rintro _ _ φ ⟨rfl,J0,J1,J2,ds,m,rfl,c⟩;have k9:=tI;have z1:=m.asks4;have z2:=m.says4;have z3:=m.rooms26;have z4:=m.few;refine bu <| fD <| jM (K:=K) <| bB <| lG (K:=K) <| jM (K:=K) <| bB <| ei (K:=K) <| ej ⟨by show 1<=aj;decide,.inl ⟨_,.cons .nil,?_⟩⟩;refine ky (K:=K) (L:=J0.map aP) (by simp) Bb <| aq rfl ⟨rfl,h_ ⟨_,_,.s,.s,by rw[ap];show 1+_<=_;omega,h_ ?_⟩⟩;refine bB <| lG (K:=K) <| jM (K:=K) <| bB <| ei (K:=K) <| ej ⟨by show 1<=aj;decide,.inl ⟨_,.cons .nil,?_⟩⟩;refine ky (K:=K) (L:=J1.map aP) (by simp) Ba <| aq rfl ⟨rfl,h_ ⟨_,_,.s,.s,by rw[ap];show 1+_<=_;omega,h_ ?_⟩⟩;refine bB <| lG (K:=K) <| jM (K:=K) <| bB <| ei (K:=K) <| ej ⟨by show 1<=aj;decide,.inl ⟨_,.cons .nil,?_⟩⟩;refine ky (K:=K) (L:=J2.map aP) (by simp) zV <| aq rfl ⟨rfl,h_ ⟨_,_,.s,.s,by rw[ap];show 1+_<=_;omega,h_ ?_⟩⟩;refine ej ⟨by show 3<=aj;decide,.inl ⟨_,.cons (.cons (.cons .nil)),aR ?_⟩⟩;have eR:DT.s [.s ([aP "asks"]++J0.map aP),.s ([aP "says"]++J1.map aP),.s ([aP "rooms"]++J2.map aP)]=.s ((aO J0 J1 J2).map fun ws=>.s (ws.map aP)):=rfl;rw[eR];refine bu <| fD <| lG (K:=K) <| on <| aq rfl ⟨List Str,aO J0 J1 J2,fun ws=>dv K (.s (ws.map aP)),fun _=>true,fun ws=>dv K (aP (df ws)),_,rfl,tL,by show 3<=_;decide,fun ws hw=>?_,?_⟩
 ·have ok:=m.heads ws hw;refine aR <| rP ⟨rfl,fun _=>rN (K:=K) <| aq rfl ⟨ws,.s,?_,?_⟩⟩
  ·have h1:=mK ok.2;have h2:=ok.1;rw[qZ];omega
  ·rw[lD];rfl
 rw[lF];refine u5 ?_;refine on <| ky (K:=K) (L:=ds.map g_) (by simp) zW <| aq rfl ⟨rfl,h_ ⟨ar,ds,fun d=>dv K (g_ d),fun _=>true,fun d=>dv K (aP (df (az d))),_,rfl,tL,by omega,fun d hd=>?_,?_⟩⟩
 ·exact aR <| rP ⟨rfl,fun _=>wC (K:=K) <| bB <| aq rfl <| ej ⟨by simp[plain],Cn.imp (Dq (φ:=fun r _=>r=bQ K (aP (df (az d)))) ⟨rfl,d,m.door hd,rfl,rfl⟩) fun r h' e=>.inl ⟨_,e,e⟩⟩⟩
 rw[lF];refine u5 ⟨_,_,.s,.s,?_,h_ <| aR ?_⟩
 ·rw[ap,ap];show 3+_<=_;omega
 have eL:((aO J0 J1 J2).map fun ws=>aP (df ws))++(ds.map fun d=>aP (df (az d)))=((aJ J0 J1 J2 ds).map df).map aP:=by
  unfold aJ;rw[aM,aM,cR,cR,cR]
  rfl
 rw[eL];have rl:(aJ J0 J1 J2 ds).length<=1003:=by unfold aJ;rw[bd,ap];show 3+_<=1003;omega
 have lok:∀l∈(aJ J0 J1 J2 ds).map df,l.length<=1359:=fun l hl=>by
  obtain⟨r,hr,rfl⟩:=aU.mp hl;exact re (m.rows r hr)
 generalize hL:(aJ J0 J1 J2 ds).map df=L at lok;have ll:L.length<=1003:=by rw[<-hL,ap];exact rl
 refine fB <| rN (K:=K) <| on <| aq rfl ⟨Str,L,fun l=>dv K (aP l),fun _=>true,fun l:Str=>dv K (aP (l++("\n":Str))),_,rfl,tL,by omega,fun l hl=>?_,?_⟩
 ·exact aR <| rP ⟨rfl,fun _=>dP (K:=K) <| aq rfl <| ei (K:=K) ⟨_,_,rfl,rfl,by rw[Db];have:=lok l hl;omega,rfl⟩⟩
 rw[lF];refine u5 ⟨L.map fun l:Str=>l++("\n":Str),?_,?_,?_⟩
 ·rw[cR];exact .s
 ·have h1:∀w∈L.map (fun l:Str=>l++("\n":Str)),w.length<=1360:=fun w hw=>by
   obtain⟨l,hl,rfl⟩:=aU.mp hw;rw[d9,Db];have:=lok l hl;omega
  have h2:=mK h1;rw[ap]at h2 ⊢;have h3:("":Str).length=0:=by decide +kernel
  rw[h3];omega
 ·rw[lD,<-hL,xf];exact c
theorem fg0{s:List Sl}(e:s.all (ol [])=true:=by rfl):Fg s [] []:=⟨List.Sublist.refl _,e,rfl,fun _ _ z=>nomatch z⟩
theorem Bh{s s':List Sl}{I:List Sl->SH->Prop}(w:Wk s s')(i:I s' [])(e:s'.all (ol [])=true:=by rfl):Dv s [] I:=⟨s',[],w,fg0 e,i⟩
theorem rR{α:Type}{xs:List α}{enc:α->AV}{i:Nat}(hi:i<(xs.map enc).length):∃a,xs[i]?=some a/\vh (xs.map enc) i=enc a:=by
 rw[ap]at hi;refine⟨xs[i],by simp[hi],?_⟩;unfold vh;rw[m5,cA];simp[hi]
abbrev gs(a p:Str):Str:=a++(" ":Str)++p
theorem pZ{ws:Zb}{j:Nat}{w:Str}(h:ws[j]?=some w)(a:Str):(ws.take (j+1)).foldl gs a=gs ((ws.take j).foldl gs a) w:=by rw[take_snoc h,m8];rfl
def gU(K:Za):Sp:=BU 1 fun xs h φ=>h=[]/\∃J0 J1 J2 ds,aI J0 J1 J2 ds/\xs=[bQ K (Bi J0 J1 J2 ds)]/\φ (bQ K (aP (bZ (aJ J0 J1 J2 ds)))) []
theorem uL{K:Za}{vs:List V}{H:Hp}{Q:VK}{E:XK}(q:gU K vs H Q E):oW K (cf Q) (start pi vs) H:=by
 refine body q ?_;rintro _ _ φ ⟨rfl,J0,J1,J2,ds,m,rfl,c⟩;have k9:=tI;have z1:=m.asks4;have z2:=m.says4;have z3:=m.rooms26;have z4:=m.few;refine bu <| fD <| aq rfl <| rS (K:=K) rfl <| cb <| aR <| cb <| aR <| cb <| aR <| cb <| aR <| kz ?_;refine bu <| fD <| ei (K:=K) <| aR ?_;refine bu <| qV <| mS <| jM (K:=K) <| bB <| vf (K:=K) <| bB <| ei (K:=K) <| bB <| aq rfl <| ej ⟨_,.cons (.cons .nil),by show 2<=aj;decide,?_⟩;refine bB <| vf (K:=K) <| bB <| ei (K:=K) <| bB <| aq rfl <| ej ⟨_,.cons (.cons .nil),by show 2<=aj;decide,?_⟩;refine bB <| vf (K:=K) <| bB <| ei (K:=K) <| bB <| aq rfl <| ej ⟨_,.cons (.cons .nil),by show 2<=aj;decide,?_⟩
 let H3:List (Str×List Str):=[("asks",J0),("says",J1),("rooms",J2)]
 have e3:aO J0 J1 J2=H3.map fun x=>x.1::x.2:=rfl;refine ej ⟨by show 3<=aj;decide,.inl ⟨_,.cons (.cons (.cons .nil)),_,H3.map (fun x=>dv K (.t [aP x.1,.s (x.2.map aP)])),rfl,.s,fun i s' h'=>h'=[]/\s'=[bQ K (Bi J0 J1 J2 ds),bQ K (.s (J0.map aP)),bQ K (.s (J1.map aP)),bQ K (.s (J2.map aP)),bQ K (.s (ds.map g_)),bQ K (aP (bZ ((aO J0 J1 J2).take i))),.no,.no,.no,.no,.no,.no,.no],Bh (.refl _) ⟨rfl,rfl⟩,?_,?_⟩⟩
 ·rintro i s' h' hi ⟨rfl,rfl⟩;obtain⟨⟨hd,ws⟩,hx,el⟩:=rR (enc:=fun x:Str×List Str=>dv K (.t [aP x.1,.s (x.2.map aP)])) hi;rw[el];have hr:(aO J0 J1 J2)[i]?=some (hd::ws):=by rw[e3,cA,hx];rfl
  have ok:=m.heads _ (bU hr);have hi3:i<3:=hi;have tl:(bZ ((aO J0 J1 J2).take i)).length<=1360 * i:=by
   have:=nH (rows:=(aO J0 J1 J2).take i) fun r hr=>m.heads r (eS hr);rw[bf]at this;exact bF this (Nat.mul_le_mul_left _ (Nat.min_le_left _ _))
  have hd8:=ok.2 hd bY;have wl:ws.length<=150:=by have:=ok.1;rw[c6]at this;omega
  have w8:∀w∈ws,w.length<=8:=fun w hw=>ok.2 w (cg _ hw);generalize hA:bZ ((aO J0 J1 J2).take i)=acc at tl;refine rS (K:=K) rfl <| cb <| aR <| cb <| aR <| kz ?_;refine bu <| fD <| dP (K:=K) <| aq rfl <| aq rfl ⟨_,_,rfl,rfl,by show acc.length+hd.length<=_;omega,aR ?_⟩;refine bu <| qV <| mS <| aq rfl ⟨_,ws.map (fun w=>dv K (aP w)),rfl,tL,fun j s' h'=>h'=[]/\s'=[bQ K (Bi J0 J1 J2 ds),bQ K (.s (J0.map aP)),bQ K (.s (J1.map aP)),bQ K (.s (J2.map aP)),bQ K (.s (ds.map g_)),bQ K (aP (acc++(ws.take j).foldl gs hd)),.no,.no,.no,.no,.no,.no,.no],Bh (.cons (.cons (.cons (.cons (.cons (.cons (.no (.no (.no (.no (.no (.no (.no kZ))))))))))))) ⟨rfl,rfl⟩,?_,?_⟩
  ·rintro j s' h' hj ⟨rfl,rfl⟩;obtain⟨w,hw,el⟩:=rR (enc:=fun w=>dv K (aP w)) hj;rw[el];have fl:=ft (ws.take j) hd fun w hw=>w8 w (eS hw);have tk:(ws.take j).length<=150:=by rw[bf];omega
   have w8':=w8 w (bU hw);refine aR <| fD <| dP (K:=K) <| dP (K:=K) <| aq rfl <| ei (K:=K) ⟨_,_,rfl,rfl,?_,aq rfl ⟨_,_,rfl,rfl,?_,aR <| Bh (.cons (.cons (.cons (.cons (.cons (.cons (.no (.no (.no (.no (.no (.no (.no kZ))))))))))))) ⟨rfl,?_⟩⟩⟩
   ·rw[d9,qZ];have:((ws.take j).foldl gs hd).length<=hd.length+9 * (ws.take j).length:=fl;omega
   ·rw[d9,d9,qZ];have:((ws.take j).foldl gs hd).length<=hd.length+9 * (ws.take j).length:=fl;omega
   ·rw[pZ hw];show _=[_,_,_,_,_,bQ K (aP (acc++(gs _ w))),_,_,_,_,_,_,_];unfold gs;rw[fX,fX,fX]
  ·rintro s' h' ⟨rfl,rfl⟩;rw[ap,c9];have fl:(ws.foldl gs hd).length<=hd.length+9 * ws.length:=ft ws hd w8;refine fD <| dP (K:=K) <| aq rfl <| ei (K:=K) ⟨_,_,rfl,rfl,by rw[d9,Db];omega,aR <| Bh (.cons (.cons (.cons (.cons (.cons (.cons (.no (.no (.no (.no (.no (.no (.no kZ))))))))))))) ⟨rfl,?_⟩⟩;rw[take_snoc hr,jz,hA];show _=[_,_,_,_,_,bQ K (aP (acc++(ws.foldl gs hd++("\n":Str)))),_,_,_,_,_,_,_];rw[fX]
 ·rintro s' h' ⟨rfl,rfl⟩;have e0:(aO J0 J1 J2).take (H3.map (fun x=>dv K (.t [aP x.1,.s (x.2.map aP)]))).length=aO J0 J1 J2:=rfl;rw[e0];refine bu <| qV <| mS <| aq rfl ⟨_,ds.map (fun d=>dv K (g_ d)),rfl,tL,fun i s' h'=>h'=[]/\s'=[bQ K (Bi J0 J1 J2 ds),bQ K (.s (J0.map aP)),bQ K (.s (J1.map aP)),bQ K (.s (J2.map aP)),bQ K (.s (ds.map g_)),bQ K (aP (bZ (aO J0 J1 J2++(ds.take i).map az))),.no,.no,.no,.no,.no,.no,.no],Bh (.refl _) ⟨rfl,?_⟩,?_,?_⟩
  ·show _=[_,_,_,_,_,bQ K (aP (bZ (aO J0 J1 J2++[]))),_,_,_,_,_,_,_];rw[i9]
  ·rintro i s' h' hi ⟨rfl,rfl⟩;obtain⟨d,hx,el⟩:=rR (enc:=fun d=>dv K (g_ d)) hi;rw[el];have hi7:i<1000:=by rw[ap]at hi;omega
   have ok:=m.door (bU hx);have tl:(bZ (aO J0 J1 J2++(ds.take i).map az)).length<=1360 * 1003:=by
    have:=nH (rows:=aO J0 J1 J2++(ds.take i).map az) fun r hr=>by
     rcases bO.mp hr with h|h
     ·exact m.heads r h
     ·obtain⟨d',hd',rfl⟩:=aU.mp h;exact m.door (eS hd')
    refine bF this (Nat.mul_le_mul_left _ ?_);rw[bd,ap,bf];show 3+_<=1003;omega
   have snoc:bZ (aO J0 J1 J2++(ds.take (i+1)).map az)=bZ (aO J0 J1 J2++(ds.take i).map az)++(df (az d)++("\n":Str)):=by
    rw[take_snoc hx,aM,<-ij];exact jz _ _
   generalize hA:bZ (aO J0 J1 J2++(ds.take i).map az)=acc at tl snoc;have a8:=ok.2 d.a (by unfold az;simp);have b8:=ok.2 d.b (by unfold az;simp);have w8:∀w∈d.sg,w.length<=8:=fun w hw=>ok.2 w (by unfold az;simp[hw]);have sl:d.sg.length<=149:=by have:=ok.1;unfold az at this;simp at this;omega
   refine rS (K:=K) rfl <| cb <| aR <| cb <| aR <| cb <| aR <| kz ?_;refine bu <| fD <| dP (K:=K) <| aq rfl <| aq rfl ⟨_,_,rfl,rfl,by omega,aR ?_⟩;refine bu <| qV <| Cq <| aq rfl ⟨_,d.sg.map (fun w=>dv K (aP w)),rfl,Dh,fun j s' h'=>h'=[]/\s'=[bQ K (Bi J0 J1 J2 ds),bQ K (.s (J0.map aP)),bQ K (.s (J1.map aP)),bQ K (.s (J2.map aP)),bQ K (.s (ds.map g_)),bQ K (aP (acc++(d.sg.take j).foldl gs d.a)),.no,.no,.no,.no,.no,bQ K (aP d.b),.no],Bh (.cons (.cons (.cons (.cons (.cons (.cons (.no (.no (.no (.no (.no (.cons (.no kZ))))))))))))) ⟨rfl,rfl⟩,?_,?_⟩
   ·rintro j s' h' hj ⟨rfl,rfl⟩;obtain⟨w,hw,el⟩:=rR (enc:=fun w=>dv K (aP w)) hj;rw[el];have fl:((d.sg.take j).foldl gs d.a).length<=d.a.length+9 * (d.sg.take j).length:=ft (d.sg.take j) d.a fun w hw=>w8 w (eS hw);have tk:(d.sg.take j).length<=149:=by rw[bf];omega
    have w8':=w8 w (bU hw);refine aR <| fD <| dP (K:=K) <| dP (K:=K) <| aq rfl <| ei (K:=K) ⟨_,_,rfl,rfl,?_,aq rfl ⟨_,_,rfl,rfl,?_,aR <| Bh (.cons (.cons (.cons (.cons (.cons (.cons (.no (.no (.no (.no (.no (.cons (.no kZ))))))))))))) ⟨rfl,?_⟩⟩⟩
    ·rw[d9,qZ];omega
    ·rw[d9,d9,qZ];omega
    ·rw[pZ hw];show _=[_,_,_,_,_,bQ K (aP (acc++(gs _ w))),_,_,_,_,_,_,_];unfold gs;rw[fX,fX,fX]
   ·rintro s' h' ⟨rfl,rfl⟩;rw[ap,c9];have fl:(d.sg.foldl gs d.a).length<=d.a.length+9 * d.sg.length:=ft d.sg d.a w8;refine fD <| dP (K:=K) <| dP (K:=K) <| dP (K:=K) <| aq rfl <| ei (K:=K) ⟨_,_,rfl,rfl,?_,aq rfl ⟨_,_,rfl,rfl,?_,ei (K:=K) ⟨_,_,rfl,rfl,?_,aR <| Bh (.cons (.cons (.cons (.cons (.cons (.cons (.no (.no (.no (.no (.no (.no (.no kZ))))))))))))) ⟨rfl,?_⟩⟩⟩⟩
    ·rw[d9,qZ];omega
    ·rw[d9,d9,qZ];omega
    ·rw[d9,d9,d9,qZ,Db];omega
    ·rw[snoc];have er:df (az d)=d.sg.foldl gs d.a++(" ":Str)++d.b:=by
      show(d.sg++[d.b]).foldl gs d.a=_;rw[m8];rfl
     rw[er];simp only[fX]
  ·rintro s' h' ⟨rfl,rfl⟩;rw[ap,c9];exact fB <| aq rfl c

structure XC(K:Za)(Cx:Addr):Prop where
 cls:zY K Cx
 p:cN K Cx "part"
 n:cN K Cx "number"
 self:PySem.W.exmOne K (.ref Cx) (.ref Cx)=some true
structure Few(J0 J1 J2:Zb)(ds:List ar):Prop where
 a:J0.length<=100
 s:J1.length<=100
 r:J2.length<=900
 d:ds.length<=9000
 wa:∀w∈J0,w.length<=1000
 ws:∀w∈J1,w.length<=1000
 wr:∀w∈J2,w.length<=1000
theorem aI.few'{J0 J1 J2:Zb}{ds:List ar}(m:aI J0 J1 J2 ds):Few J0 J1 J2 ds :=
 ⟨by have:=m.asks4;omega,by have:=m.says4;omega,by have:=m.rooms26;omega,by have:=m.few;omega,fm m.okA,fm m.okS,fm m.okR⟩
def lq(J0 J1 J2:Zb)(ds:List ar):List DT:=[.s (J0.map aP),.s (J1.map aP),.s (J2.map aP),.s (ds.map g_)]
theorem rT(J0 J1 J2:Zb)(ds:List ar):DT.depths (lq J0 J1 J2 ds)<=3:=by
 have h:DT.depths (ds.map g_)<=2:=by
  induction ds with
  |nil=>exact cy _
  |cons x xs ih=>rw[aS];show max (DT.depth (g_ x)) (DT.depths _)<=2;rw[rV];omega
 unfold lq;show max (DT.depths (J0.map aP)+1) (max (DT.depths (J1.map aP)+1) (max (DT.depths (J2.map aP)+1) (max (DT.depths (ds.map g_)+1) 0)))<=3;rw[eO,eO,eO];omega
theorem Lists.dr{K:Za}{H:Hp}{r l1 l2 l3 l4:Addr}{ts:Ze}{J0 J1 J2:Zb}{ds:List ar}(L:Lists H l1 l2 l3 l4 ts J0 J1 J2 ds)(h:H r=some (.lst [.ref l1,.ref l2,.ref l3,.ref l4])):DR K H (.s (lq J0 J1 J2 ds)) (.ref r):=by
 unfold DR;refine⟨r,_,rfl,h,?_⟩;unfold lq;unfold DRs;refine⟨_,_,rfl,by unfold DR;exact⟨l1,_,rfl,L.a1,fI _⟩,?_⟩;unfold DRs;refine⟨_,_,rfl,by unfold DR;exact⟨l2,_,rfl,L.a2,fI _⟩,?_⟩;unfold DRs;refine⟨_,_,rfl,by unfold DR;exact⟨l3,_,rfl,L.a3,fI _⟩,?_⟩;unfold DRs;refine⟨_,_,rfl,by unfold DR;exact⟨l4,_,rfl,L.a4,i6 L.ds⟩,?_⟩;unfold DRs
 rfl
theorem BV:∀ws:List Str,DT.sms (ws.map aP)=true
 |[]=>rfl
 |w::ws=>by
  rw[aS];show(DT.sm (aP w) && DT.sms (ws.map aP))=true;rw[BV ws];rfl
theorem smS{ws:Zb}(h:ws.length<=1000000):DT.sm (.s (ws.map aP))=true:=by
 show(decide ((ws.map aP).length<=1000000) && DT.sms (ws.map aP))=true;rw[BV,ap,zzr1 h];rfl
theorem smG{ws:Zb}(h:ws.length<=1000000):DT.sm (.t (ws.map aP))=true:=by
 show(decide ((ws.map aP).length<=1000000) && DT.sms (ws.map aP))=true;rw[BV,ap,zzr1 h];rfl
theorem C1:∀{ds:List ar},(∀d∈ds,d.sg.length<=1000000)->DT.sms (ds.map g_)=true
 |[],_=>rfl
 |d::ds,h=>by
  rw[aS];show(DT.sm (g_ d) && DT.sms (ds.map g_))=true;rw[C1 fun x hx=>h x (cg _ hx)];have:DT.sm (g_ d)=true:=by
   show(decide (3<=1000000) && (DT.sm (aP d.a) && (DT.sm (.t (d.sg.map aP)) && (DT.sm (aP d.b) && true))))=true;rw[smG (h d bY)];rfl
  rw[this];rfl
theorem yJ{J0 J1 J2:Zb}{ds:List ar}(F:Few J0 J1 J2 ds)(g:∀d∈ds,d.sg.length<=1000000):DT.sm (.s (lq J0 J1 J2 ds))=true:=by
 have h1:=F.a;have h2:=F.s;have h3:=F.r;have h4:=F.d;show(decide (4<=1000000) && (DT.sm (.s (J0.map aP)) && (DT.sm (.s (J1.map aP)) && (DT.sm (.s (J2.map aP)) && (DT.sm (.s (ds.map g_)) && true)))))=true;rw[smS (by omega),smS (by omega),smS (by omega)];have:DT.sm (.s (ds.map g_))=true:=by
  show(decide ((ds.map g_).length<=1000000) && DT.sms (ds.map g_))=true;rw[C1 g,ap,zzr1 (by omega)];rfl
 rw[this];rfl
theorem pK{K:Za}{n:Nat}{x y:V}{H:Hp}{Q:VK}{E:XK}{d:DT}(h1:DR K H d x)(h2:DR K H d y)(hd:d.depth<=n)(n8:n<=8)(sm:DT.sm d=true)(k:∀H',ae H H'->Q (.bl true) H'):dH K n [x,y] H Q E:=by
 refine⟨[bQ K d,bQ K d],[],fun r _=>r=.im (bv true),⟨H,H,fun _=>0,fun _=>False⟩,rfl,rfl,(fun _ _ e=>nomatch e),⟨ae.refl _,(fun _ e=>e.elim),(fun _ _ e=>nomatch e),(fun _ _ _ _ e=>nomatch e),ir⟩,.cons h1 (.cons h2 .nil),⟨rfl,d,d,rfl,hd,hd,n8,sm,?_⟩,?_⟩
 ·rw[zzr1 rfl]
 ·intro r v h' m' e w f o;subst e;rw[show v=.bl true from o];exact k _ fun a o q=>w.hh a o q (fun z=>z) (fun z=>by simp[CA]at z)

open Classical in
def xk(K:Za):TS :=
 bt (jl (aL B0 (de (dX K) (aF V0)) (tC (.int 1))) (aL z9 (aL (cX K) V0 (tC (.int 0))) V1))
def ya:List Str:=["words","head"]
def xm(K:Za):TS :=
 aw (du (cT (aL z9 (de (dX K) (aF V0)) (tC (.int 3)))) (bt (aL z9 (aL (cX K) V0 (tC (.int 1))) (tC (.str "still")))) (bT))
 (bt (jl (aL z9 (de (dX K) (aF V0)) (tC (.int 4))) (aL (xD K false) (aL (cX K) V0 (tC (.int 1))) (fz (br (tC (.str "ask")) (tC (.str "say")))))))
def yb:List Str:=["words"]
def yy(K:Za)(a_HEADS:Addr)(sp_is_head:Sp)(sp_is_door:Sp):TS :=
 aw (du (cT (aL (xD K false) (tC (.str "")) V0)) (bt (tC (.bl false))) (bT))
 (bt (tIf (cT (aL Az V1 (de (dX K) (aF (tC (.ref a_HEADS)))))) (aZ sp_is_head (br V0 (aL (AA K) (tC (.ref a_HEADS)) V1))) (aZ sp_is_door (aF V0))))
def zZ:List Str:=["words","number"]
def sO(K:Za)(a_HEADS:Addr)(sp_is_row:Sp):TS :=
 aw (fP (oj K (aF V0)) (iH K 2 (bq U2 (bq U3 (ig)))) (du (qN (tB (aZ sp_is_row (br V3 V2)))) (qO) (bT)))
 (du (BS (cT (aL CK V1 (tC (.str "")))) (cT (aL Az (de (dX K) (aF V0)) (de (dX K) (aF (tC (.ref a_HEADS))))))) (qO) (bT))
def t7:List Str:=["ended","rest","number","words"]
def xr(K:Za):TS :=
 bt (fz (au (aL (cX K) V0 (tC (.int 0))) (au (de (C5 K) (au (uu (mB K) V0 (d7 (tC (.int 1))) (d7 (CU (rU fun i=>.int (-i)) (tC (.int 1))))) bz)) (aF (aL (cX K) V0 (CU (rU fun i=>.int (-i)) (tC (.int 1))))))))
def yd:List Str:=["words"]
def BR(K:Za)(C_Machine:Addr)(sp_Machine_init:Sp)(a_HEADS:Addr)(sp_door_of:Sp)(sp_need_rows:Sp):TS :=
 aw (aV (v3 K "str" uP V0 (aF (tC (.str "\n")))) U1)
 (aw (aV (c8 1 [] (cU K (uu (mB K) V1 (dg) (d7 (CU (rU fun i=>.int (-i)) (tC (.int 1)))))) U0 (gS) (v3 K "str" uP V0 (aF (tC (.str " "))))) U2)
 (aw (eG (aZ sp_need_rows (br V2 (aL (cX K) V1 (CU (rU fun i=>.int (-i)) (tC (.int 1)))))))
 (aw (aV (c8 1 [] (cU K (uu (mB K) V2 (dg) (d7 (de (dX K) (aF (tC (.ref a_HEADS))))))) U0 (gS) (uu (mB K) V0 (d7 (tC (.int 1))) (dg))) (Dk K 3 (bq U3 (bq U4 (bq U5 (ig))))))
 (bt (vY C_Machine sp_Machine_init [] E0 (au V3 (au V4 (au V5 (au (c8 1 [] (cU K (uu (mB K) V2 (d7 (de (dX K) (aF (tC (.ref a_HEADS))))) (dg))) U0 (gS) (aZ sp_door_of (aF V0))) bz)))))))))
def CD:List Str:=["text","lines","ended","asks","says","rooms"]
def mo(K:Za)(C_Machine:Addr)(sp_Machine_doors:Sp)(sp_Machine_rooms:Sp)(sp_Machine_says:Sp)(sp_Machine_asks:Sp)(sp_read:Sp)(C_NoMachine:Addr)(C_NoText:Addr):TS :=
 aw (aV (tC .non) U1)
 (aw (aV (tC .non) U2)
 (aw (CV (CW (aV (aZ sp_read (aF V0)) U1)) (BT K C_NoText 3 (aV (fz (br (tC (.str "text")) (vX K V3 "number"))) U2) (BT K C_NoMachine 3 (aV (fz (br (vX K V3 "part") (vX K V3 "number"))) U2) (CY))))
 (aw (du (tB (yC V1)) (bt V2) (bT))
 (bt (eF (au (gB C_Machine "asks" sp_Machine_asks [] E0 V1 bz) (i_ (gB C_Machine "says" sp_Machine_says [] E0 V1 bz) (gB C_Machine "rooms" sp_Machine_rooms [] E0 V1 bz) (gB C_Machine "doors" sp_Machine_doors [] E0 V1 bz))))))))
def mF:List Str:=["given","found","wrong","e"]
def Al(K:Za)(sp_law_same:Sp)(fE:Sp)(sp_read:Sp)(sp_law_read_told:Sp)(sp_law_text_of:Sp)(sp_law_machine:Sp)(sp_law_model:Sp)(sp_law_open:Sp):TS :=
 aw (aV (aZ sp_law_open (aF V0)) U1)
 (aw (aV (c8 1 [1] (pX (aF (tC (.int 2)))) U0 (gS) (aZ sp_law_model (i_ V1 (tC (.int 9)) V0))) U2)
 (aw (fP (cU K (aL nV V2 V2)) U3 (aw (aV (aZ fE (aF (aZ sp_law_machine (aF V3)))) U4)
 (aw (du (qN (tB (aZ sp_law_same (br V4 (aZ sp_law_text_of (aF V3)))))) (bt (tC (.bl false))) (bT))
 (aw (du (qN (tB (aZ sp_law_same (br (aZ sp_law_read_told (aF V4)) (de (cJ K) (aF V3)))))) (bt (tC (.bl false))) (bT))
 (du (qN (tB (aZ sp_law_same (br (aZ fE (aF (aZ sp_read (aF V4)))) V4)))) (bt (tC (.bl false))) (bT))))))
 (bt (tC (.bl true)))))
def wU:List Str:=["script","pen","models","told","given"]
def y0:List Str:=["script"]
def jn(c:Nat):List (List Nat)->List Nat
 |[]=>[]
 |[a]=>a
 |a::b::l=>a++c::jn c (b::l)
theorem Dp{c:Nat}{x y:List Nat}:∀{a b:List Nat},c∉a->c∉b->a++c::x=b++c::y->a=b/\x=y
 |[],[],_,_,h=>by injection h with _ h;exact⟨rfl,h⟩
 |[],b::bs,_,hb,h=>by injection h with h _;exact absurd (h▸bY) hb
 |a::as,[],ha,_,h=>by injection h with h _;exact absurd (h▸bY) ha
 |a::as,b::bs,ha,hb,h=>by
  injection h with h1 h2;obtain⟨h3,h4⟩:=Dp (fun z=>ha (cg _ z)) (fun z=>hb (cg _ z)) h2;exact⟨by rw[h1,h3],h4⟩
theorem zn{c:Nat}:∀{as bs:List (List Nat)},as≠[]->bs≠[]->(∀a∈as,c∉a)->(∀b∈bs,c∉b)->jn c as=jn c bs->as=bs
 |[],_,h,_,_,_,_=>absurd rfl h
 |_,[],_,h,_,_,_=>absurd rfl h
 |[a],[b],_,_,_,_,h=>by rw[show a=b from h]
 |[a],b::b'::bs,_,_,ha,_,h=>by
  have h:a=b++c::jn c (b'::bs):=h;exact absurd (by rw[h];simp) (ha a bY)
 |a::a'::as,[b],_,_,_,hb,h=>by
  have h:a++c::jn c (a'::as)=b:=h;exact absurd (by rw[<-h];simp) (hb b bY)
 |a::a'::as,b::b'::bs,_,_,ha,hb,h=>by
  obtain⟨h1,h2⟩:=Dp (ha a bY) (hb b bY) (show a++c::jn c (a'::as)=b++c::jn c (b'::bs)from h);rw[h1,zn (by simp) (by simp) (fun x hx=>ha x (cg _ hx)) (fun x hx=>hb x (cg _ hx)) h2]
theorem tJ(c:Nat):∀ys:List Str,((⟨#[c]⟩:Str).join ys).cps.toList=jn c (ys.map (·.cps.toList))
 |[]=>rfl
 |[a]=>rfl
 |a::b::l=>by
  show(a++(⟨#[c]⟩:Str)++(⟨#[c]⟩:Str).join (b::l)).cps.toList=_;rw[cZ,cZ,tJ c (b::l)];show a.cps.toList++[c]++_=a.cps.toList++c::_;rw[ij]
  rfl
theorem Cf(c:Nat)(y p:List Nat):∀l,jn c ((y++c::p)::l)=y++c::jn c (p::l)
 |[]=>rfl
 |a::l=>by show(y++c::p)++c::jn c (a::l)=y++c::(p++c::jn c (a::l));simp
theorem tO(c:Nat):∀ys:List Str,(zw ⟨#[c]⟩ ys).cps.toList=jn c (ys.map (·.cps.toList))
 |[]=>rfl
 |y::ys=>by
  show(ys.foldl (fun(a p:Str)=>a++(⟨#[c]⟩:Str)++p) y).cps.toList=_
  induction ys generalizing y with
  |nil=>rfl
  |cons p ps ih =>
   rw[kJ,ih,aS,aS,aS,cZ,cZ,ij];show jn c ((y.cps.toList++c::p.cps.toList)::_)=_;rw[Cf]
   rfl
theorem yH(x y:Str):ee x y≠[]:=fun h=>by
 have:=len_of_split (l:=(ee x y).map fun s=>(s,0)) (x:=x) (y:=y) (by rw[cR];exact List.map_id _);rw[h]at this;exact absurd this (by decide)
theorem wM:∀{xs ys:Zb},xs.map (·.cps.toList)=ys.map (·.cps.toList)->xs=ys
 |[],[],_=>rfl
 |[],_::_,h=>by cases h
 |_::_,[],h=>by cases h
 |x::xs,y::ys,h=>by
  rw[aS,aS]at h;injection h with h1 h2;rw[j7 h1,wM h2]
theorem sZ{c:Nat}{x:Str}{ys:Zb}(h0:ys≠[])(hf:∀y∈ys,c∉y.cps.toList)(h:x.cps.toList=jn c (ys.map (·.cps.toList))):ee x ⟨#[c]⟩=ys:=by
 refine wM (zn (c:=c) (fun z=>yH _ _ (List.map_eq_nil_iff.mp z)) (fun z=>h0 (List.map_eq_nil_iff.mp z)) ?_ ?_ ?_)
 ·intro a ha;obtain⟨p,hp,rfl⟩:=aU.mp ha;exact StrLaws.split_free _ _ _ hp
 ·intro a ha;obtain⟨p,hp,rfl⟩:=aU.mp ha;exact hf p hp
 ·rw[<-tJ,StrLaws.join_split,h]
theorem Bn:(" ":Str)=⟨#[32]⟩:=by decide +kernel
theorem Bu:("\n":Str)=⟨#[10]⟩:=by decide +kernel
theorem pH{r:Zb}(h0:r≠[])(hf:∀w∈r,32∉w.cps.toList):ee (df r) " "=r:=by
 unfold df;rw[Bn];exact sZ h0 hf (tO 32 r)
theorem zo(c:Nat):∀ls:List (List Nat),jn c (ls++[[]])=(ls.map fun a=>a++[c]).flatten
 |[]=>rfl
 |[a]=>by show a++c::jn c [[]]=_;simp[jn]
 |a::b::l=>by
  show a++c::jn c (b::l++[[]])=_;rw[zo c (b::l)];simp
theorem xh(rows:List (List Str)):(bZ rows).cps.toList=(rows.map fun r=>(df r).cps.toList++[10]).flatten:=by
 have:∀(rows:List (List Str)) (acc:Str),(rows.foldl (fun acc r=>acc++(df r++"\n")) acc).cps.toList=acc.cps.toList++(rows.map fun r=>(df r).cps.toList++[10]).flatten:=by
  intro rows
  induction rows with
  |nil=>intro acc;simp
  |cons r rows ih=>intro acc;rw[kJ,ih,cZ,cZ,Bu];simp
 have h:=this rows "";rw[show("":Str).cps.toList=[]from rfl,List.nil_append]at h;exact h
theorem wo{c d:Nat}(cd:c≠d):∀{ls:List (List Nat)},(∀a∈ls,c∉a)->c∉jn d ls
 |[],_=>by simp[jn]
 |[a],h=>h a bY
 |a::b::l,h=>by
  show c∉a++d::jn d (b::l);rw[bO,bg];rintro(z|z|z)
  ·exact h a bY z
  ·exact cd z
  ·exact wo cd (fun x hx=>h x (cg _ hx)) z
theorem uE{rows:List (List Str)}(hf:∀r∈rows,∀w∈r,10∉w.cps.toList):ee (bZ rows) "\n"=rows.map df++[("":Str)]:=by
 rw[Bu];refine sZ (by simp) ?_ ?_
 ·intro y hy;rcases bO.mp hy with h|h
  ·obtain⟨r,hr,rfl⟩:=aU.mp h;unfold df;rw[Bn,tO];refine wo (by decide) fun a ha=>?_;obtain⟨w,hw,rfl⟩:=aU.mp ha;exact hf r hr w hw
  ·have:y="":=by simpa using h
   subst this;exact gj
 ·rw[xh,aM,show([""]:Zb).map (·.cps.toList)=[[]]from rfl,zo,cR,cR]
  rfl
structure wR(w:Str):Prop where
 ne:w≠""
 sp:32∉w.cps.toList
 nl:10∉w.cps.toList
theorem iK.pl{w:Str}(h:iK w):wR w:=by
 refine⟨fun z=>?_,fun z=>?_,fun z=>?_⟩
 ·have:=h.lo;rw[z]at this;exact absurd this (by decide)
 ·exact absurd (h.al _ z) (by unfold lA;omega)
 ·exact absurd (h.al _ z) (by unfold lA;omega)
theorem rj:∀w∈([("asks":Str),"says","rooms","ask","say","still"]:Zb),wR w:=by
 intro w hw;have h1:∀w∈([("asks":Str),"says","rooms","ask","say","still"]:Zb),w≠""/\32∉w.cps.toList/\10∉w.cps.toList:=by decide +kernel
 exact⟨(h1 w hw).1,(h1 w hw).2.1,(h1 w hw).2.2⟩
theorem aI.pl{J0 J1 J2:Zb}{ds:List ar}(m:aI J0 J1 J2 ds):∀r∈aJ J0 J1 J2 ds,∀w∈r,wR w:=by
 intro r hr w hw;have nm:∀{ws:Zb},fh ws->∀{h:Str},h∈([("asks":Str),"says","rooms","ask","say","still"]:Zb)->w∈h::ws->wR w:=fun ok h hh hw=>by
  rcases bg.mp hw with e|e
  ·rw[e];exact rj _ hh
  ·exact(ok.2 w e).pl
 rcases bO.mp hr with h|h
 ·unfold aO at h;simp only[bg,gj,or_false]at h;rcases h with rfl|rfl|rfl
  ·exact nm m.okA (by simp) hw
  ·exact nm m.okS (by simp) hw
  ·exact nm m.okR (by simp) hw
 ·obtain⟨d,hd,rfl⟩:=aU.mp h;have g:=m.good d hd;unfold az at hw;rcases bO.mp hw with hw|hw
  ·rcases bg.mp hw with e|e
   ·rw[e];exact(m.okR.2 _ g.a).pl
   ·rcases g.sg with⟨a,ha,q⟩|⟨a,ha,q⟩|q
    ·rw[q]at e;simp only[bg,gj,or_false]at e;rcases e with rfl|rfl
     ·exact rj _ (by simp)
     ·exact(m.okA.2 _ ha).pl
    ·rw[q]at e;simp only[bg,gj,or_false]at e;rcases e with rfl|rfl
     ·exact rj _ (by simp)
     ·exact(m.okS.2 _ ha).pl
    ·rw[q]at e;have:w="still":=by simpa[a_]using e
     rw[this];exact rj _ (by simp)
  ·have:w=d.b:=by simpa using hw
   rw[this];exact(m.okR.2 _ g.b).pl
theorem aI.rows0{J0 J1 J2:Zb}{ds:List ar}:∀r∈aJ J0 J1 J2 ds,r≠[]:=by
 intro r hr;rcases bO.mp hr with h|h
 ·unfold aO at h;simp only[bg,gj,or_false]at h;rcases h with rfl|rfl|rfl<;>simp
 ·obtain⟨d,hd,rfl⟩:=aU.mp h;simp[az]
def f_:List Str:=[("asks":Str),"says","rooms"]
inductive iV(vs:List V)(H:Hp)(Q:VK)(E:XK):Prop
 |mk (l:Addr) (h w:Str) (ws:Zb):(vs=[.ref l,.str h])->(H l=some (.lst ((h::w::ws).map V.str)))->(Q (.bl true) H)->iV vs H Q E
theorem xz{K:Za}{vs:List V}{H:Hp}{Q:VK}{E:XK}(h:iV vs H Q E):xk K (cf Q) (start ya vs) H:=by
 obtain⟨l,h,w,ws,rfl,hl,k⟩:=h;refine⟨_,rfl,.inl ⟨l,_,rfl,.inl (aA.of hl),_,_,rfl,rfl,_,rfl,?_⟩⟩;rw[zzr1 (by rw[ap,c6,c6];omega)];refine cQ ⟨_,rfl,l,_,0,_,rfl,rfl,aA.of hl,eE (j:=0) rfl,_,rfl,rfl,?_⟩;rw[zzr1 rfl];exact k
inductive iW(vs:List V)(H:Hp)(Q:VK)(E:XK):Prop
 |mk (l:Addr) (J0 J1 J2:Zb) (d:ar):(vs=[.ref l])->(H l=some (.lst ((az d).map V.str)))->(z7 J0 J1 J2 d)->(∀H',ae H H'->Q (.bl true) H')->iW vs H Q E
theorem xA{K:Za}{vs:List V}{H:Hp}{Q:VK}{E:XK}(h:iW vs H Q E):xm K (cf Q) (start yb vs) H:=by
 obtain⟨l,J0,J1,J2,d,rfl,hl,g,k⟩:=h;have key:(∃x w:Str,(x="ask"∨x="say")/\d.sg=[x,w])∨d.sg=a_:=by
  rcases g.sg with⟨w,_,e⟩|⟨w,_,e⟩|e
  ·exact .inl ⟨_,w,.inl rfl,e⟩
  ·exact .inl ⟨_,w,.inr rfl,e⟩
  ·exact .inr e
 refine⟨_,rfl,.inl ⟨l,_,rfl,.inl (aA.of hl),rfl,_,rfl,?_⟩⟩;rcases key with⟨x,w,hx,e⟩|e
 ·have er:az d=[d.a,x,w,d.b]:=by unfold az;rw[e];rfl
  rw[er]at hl ⊢;rw[zzr0 (by intro z;cases z)];refine bE ⟨_,rfl,.inl ⟨l,_,rfl,.inl (aA.of hl),rfl,_,rfl,?_⟩⟩;rw[zzr1 (show V.int (([d.a,x,w,d.b].map V.str).length:Nat)=V.int 4 from rfl)];refine cQ ⟨_,rfl,l,_,1,_,rfl,rfl,aA.of hl,eE (j:=1) rfl,(by show 2<=aj;decide),fun t ht=>?_⟩;refine⟨aP x,[("ask":Str),"say"].map aP,t,_,wK _,rfl,.inr (bN.of aa),ou [("ask":Str),"say"],cy _,by rw[eO];decide,?_⟩;have:decide (aP x∈[("ask":Str),"say"].map aP)=true:=zzr1 (by rcases hx with rfl|rfl<;>simp);show Q (.bl (if false=true then _ else decide (aP x∈[("ask":Str),"say"].map aP))) _
  rw[this];exact k _ (ae.new ht)
 ·have er:az d=[d.a,"still",d.b]:=by unfold az;rw[e];rfl
  rw[er]at hl ⊢;rw[zzr1 (show V.int (([d.a,("still":Str),d.b].map V.str).length:Nat)=V.int 3 from rfl)];refine cQ ⟨_,rfl,l,_,1,_,rfl,rfl,aA.of hl,eE (j:=1) rfl,rfl,?_⟩;rw[zzr1 rfl];exact k _ (ae.refl _)
theorem uJ{J0 J1 J2:Zb}{ds:List ar}{n:Nat}{r:Zb}(m:aI J0 J1 J2 ds)(h:(aJ J0 J1 J2 ds)[n]?=some r)(hn:n<3):∃hd w ws,f_[n]?=some hd/\r=hd::w::ws:=by
 have two:∀{ws:Zb}(h:Str),ws≠[]->∃w us,h::ws=h::w::us:=fun{ws} h n0=>by
  cases ws with
  |nil=>exact absurd rfl n0
  |cons w us=>exact⟨w,us,rfl⟩
 have:n=0∨n=1∨n=2:=by omega
 rcases this with rfl|rfl|rfl<;>cases h
 ·obtain⟨w,us,e⟩:=two "asks" m.asks0;exact⟨_,w,us,rfl,e⟩
 ·obtain⟨w,us,e⟩:=two "says" m.says0;exact⟨_,w,us,rfl,e⟩
 ·obtain⟨w,us,e⟩:=two "rooms" m.rooms0;exact⟨_,w,us,rfl,e⟩
theorem uK{J0 J1 J2:Zb}{ds:List ar}{n:Nat}{r:Zb}(h:(aJ J0 J1 J2 ds)[n]?=some r)(hn:¬n<3):∃d∈ds,r=az d:=by
 unfold aJ at h;rw[jy (by show 3<=n;omega),cA]at h;obtain⟨d,hd,e⟩:=qA.mp h;exact⟨d,bU hd,e.symm⟩
inductive j9(vs:List V)(H:Hp)(Q:VK)(E:XK):Prop
 |mk (l:Addr) (n:Nat) (J0 J1 J2:Zb) (ds:List ar) (r:Zb):(vs=[.ref l,.int n])->(aI J0 J1 J2 ds)->((aJ J0 J1 J2 ds)[n]?=some r)->(H l=some (.lst (r.map V.str)))->(∀H',ae H H'->Q (.bl true) H')->j9 vs H Q E
theorem yS{K:Za}{aH:Addr}(c:∀H,bN K H aH (f_.map V.str)){vs:List V}{H:Hp}{Q:VK}{E:XK}(h:j9 vs H Q E):yy K aH iV iW (cf Q) (start zZ vs) H:=by
 obtain⟨l,n,J0,J1,J2,ds,r,rfl,m,hr,hl,k⟩:=h;have rin:=bU hr;refine⟨_,rfl,aP "",r.map aP,l,_,wK _,rfl,.inl (aA.of hl),ou r,cy _,by rw[eO];decide,_,rfl,?_⟩;have no:decide (aP ""∈r.map aP)=false:=zzr0 fun z=>by
  obtain⟨w,hw,e⟩:=aU.mp z;have:w="":=by unfold aP at e;injection e with e;injection e
  exact(m.pl r rin w hw).ne this
 show if(if false=true then _ else decide (aP ""∈r.map aP))=true then _ else _
 rw[no];refine bE ⟨_,rfl,.inl ⟨aH,_,rfl,.inr (c H),_,_,rfl,rfl,_,rfl,?_⟩⟩;refine pb (fun q=>?_) (fun q=>?_)
 ·have q:(n:Int)<3:=of_decide_eq_true q;obtain⟨hd,w,ws,e1,rfl⟩:=uJ m hr (by omega);refine⟨_,rfl,_,rfl,aH,_,(n:Int),.str hd,rfl,rfl,c H,eE (j:=n) (by rw[cA,e1];rfl),?_⟩;exact⟨l,hd,w,ws,rfl,hl,k _ (ae.refl _)⟩
 ·have q:¬(n:Int)<3:=fun z=>q (zzr1 z);obtain⟨d,hd,rfl⟩:=uK hr (by omega);exact⟨_,rfl,l,J0,J1,J2,d,rfl,hl,m.good d hd,k⟩
abbrev gp(H:Hp)(us:Ze)(rows:List (List Str)):Prop:=Paired (fun u r=>H u=some (.lst (r.map V.str))) us rows
theorem gp.same{H H':Hp}{us:Ze}{rows:List (List Str)}(h:gp H us rows)(S:ae H H'):gp H' us rows:=Paired.mapP h fun _ _ e=>S _ _ e
inductive fW(vs:List V)(H:Hp)(Q:VK)(E:XK):Prop
 |mk (l:Addr) (us:Ze) (J0 J1 J2:Zb) (ds:List ar):(vs=[.ref l,.str ""])->(aI J0 J1 J2 ds)->(H l=some (.lst (us.map V.ref)))->(gp H us (aJ J0 J1 J2 ds))->(∀H',ae H H'->Q .non H')->fW vs H Q E
theorem tp{K:Za}{aH:Addr}(c:∀H,bN K H aH (f_.map V.str)){vs:List V}{H:Hp}{Q:VK}{E:XK}(h:fW vs H Q E):sO K aH j9 (cf Q) (start t7 vs) H:=by
 obtain⟨l,us,J0,J1,J2,ds,rfl,m,hl,R,k⟩:=h;refine⟨_,rfl,l,rfl,⟨_,aA.of hl⟩,?_⟩;refine gH (xs:=us.map V.ref) (fun i σ H'=>∃x y,σ=[some (.ref l),some (.str ""),x,y]/\ae H H') ⟨_,_,rfl,ae.refl _⟩ (fun i σ H' _ ⟨_,_,_,S⟩=>aA.of (S _ _ hl)) ?_ ?_
 ·rintro i v σ H1 p hi ⟨x,y,rfl,S⟩ hp;obtain⟨u,hu,rfl⟩:=eJ hi;obtain⟨r,hr,hat⟩:=Paired.getL R hu;have S2:ae H (upd H1 p (.tup [.int i,.ref u])):=S.trans (ae.new hp);refine⟨p,_,rfl,bN.of aa,rfl,_,_,rfl,_,_,rfl,rfl,?_⟩;generalize upd H1 p (.tup [.int i,.ref u])=H2 at S2 ⊢;refine⟨_,rfl,_,rfl,u,i,J0,J1,J2,ds,r,rfl,m,hr,S2 _ _ hat,fun H3 S3=>⟨_,rfl,bE ⟨_,_,rfl,S2.trans S3⟩⟩⟩
 ·rintro σ H1 ⟨x,y,rfl,S⟩;refine⟨_,rfl,rfl,_,rfl,?_⟩;rw[zzr1 rfl];refine bE ⟨_,rfl,.inl ⟨l,_,rfl,.inl (aA.of (S _ _ hl)),.inl ⟨aH,_,rfl,.inr (c H1),_,_,rfl,rfl,_,rfl,?_⟩⟩⟩;rw[zzr0 (by rw[ap,Paired.length R];show ¬(((aJ J0 J1 J2 ds).length:Nat):Int)<3;unfold aJ aO;rw[bd];show ¬(((3+_:Nat):Int)<3);omega)];exact bE (k _ S)
inductive iX(vs:List V)(H:Hp)(Q:VK)(E:XK):Prop
 |mk (l:Addr) (d:ar):(vs=[.ref l])->(H l=some (.lst ((az d).map V.str)))->(d.sg.length<=1000)->(∀t H',eo H' t d->ae H H'->Q (.ref t) H')->iX vs H Q E
theorem A9(d:ar):dD ((az d).map V.str) (some 1) (some (-1))=d.sg.map V.str:=by
 unfold dD az;have h1:(((d.a::d.sg++[d.b]:Zb).map V.str).length)=d.sg.length+2:=by simp
 have h2:HT.sIx (d.sg.length+2) 0 (some 1)=1:=by unfold HT.sIx;simp
 have h3:HT.sIx (d.sg.length+2) (d.sg.length+2) (some (-1))=d.sg.length+1:=by unfold HT.sIx;simp;omega
 rw[h1,h2,h3];simp
theorem xB{K:Za}{vs:List V}{H:Hp}{Q:VK}{E:XK}(h:iX vs H Q E):xr K (cf Q) (start yd vs) H:=by
 obtain⟨l,d,rfl,hl,hz,k⟩:=h;refine⟨_,rfl,l,_,0,.str d.a,rfl,rfl,aA.of hl,eE (j:=0) rfl,?_⟩;refine⟨_,rfl,_,rfl,_,rfl,_,rfl,l,_,rfl,aA.of hl,fun q hq=>?_⟩;rw[A9];have S1:ae H (upd H q (.lst (d.sg.map V.str))):=ae.new hq;have e1:upd H q (.lst (d.sg.map V.str)) q=some (.lst (d.sg.map V.str)):=aa;generalize upd H q (.lst (d.sg.map V.str))=H1 at S1 e1 ⊢;refine⟨q,_,rfl,.inl ⟨aA.of e1,fun s hs=>?_⟩⟩;have S2:ae H (upd H1 s (.tup (d.sg.map V.str))):=S1.trans (ae.new hs);have e2:upd H1 s (.tup (d.sg.map V.str)) s=some (.tup (d.sg.map V.str)):=aa;generalize upd H1 s (.tup (d.sg.map V.str))=H2 at S2 e2 ⊢;refine⟨_,rfl,_,rfl,l,_,-1,.str d.b,rfl,rfl,aA.of (S2 _ _ hl),?_,(by show 3<=aj;decide),fun t ht=>?_⟩
 ·unfold az;rw[aM];exact tZ _ _
 ·exact k t _ ⟨s,aa,kp e2 ht⟩ (S2.trans (ae.new ht))
theorem zP(xs:List V)(v:V):dD (xs++[v]) none (some (-1))=xs:=by
 unfold dD;have h1:(xs++[v]).length=xs.length+1:=by simp
 have h3:HT.sIx (xs.length+1) (xs.length+1) (some (-1))=xs.length:=by unfold HT.sIx;simp;omega
 rw[h1,h3];show((xs++[v]).drop (HT.sIx _ 0 none)).take (xs.length-HT.sIx _ 0 none)=xs;have h2:HT.sIx (xs.length+1) 0 none=0:=rfl;rw[h2];simp
abbrev oJ(f:Addr)(H:Hp)(us:Ze)(rows:List (List Str)):Prop:=Paired (fun u r=>u≠f/\H u=some (.lst (r.map V.str))) us rows
theorem oJ.at_{f:Addr}{H:Hp}{us:Ze}{rows:List (List Str)}(h:oJ f H us rows):gp H us rows:=Paired.mapP h fun _ _ e=>e.2
theorem oJ.add{f:Addr}{H H':Hp}{us:Ze}{rows:List (List Str)}{u:Addr}{r:Zb}{o:HO}(h:oJ f H us rows)(S:ae H H')(nu:u≠f)(hu:H' u=some (.lst (r.map V.str))):oJ f (upd H' f o) (us++[u]) (rows++[r]) :=
 Paired.app (Paired.mapP h fun _ _ e=>⟨e.1,by rw[ai e.1];exact S _ _ e.2⟩) (.cons ⟨nu,by rw[ai nu];exact hu⟩ .nil)
theorem tf(J0 J1 J2:Zb)(ds:List ar):(aJ J0 J1 J2 ds).length=3+ds.length:=by
 unfold aJ aO;rw[bd,ap];rfl
theorem aI.split{J0 J1 J2:Zb}{ds:List ar}(m:aI J0 J1 J2 ds):ee (bZ (aJ J0 J1 J2 ds)) "\n"=(aJ J0 J1 J2 ds).map df++[("":Str)] :=
 uE fun r hr w hw=>(m.pl r hr w hw).nl
theorem aI.len{J0 J1 J2:Zb}{ds:List ar}(m:aI J0 J1 J2 ds):(bZ (aJ J0 J1 J2 ds)).length<=2000000:=by
 have:=nH m.rows;have h:=tf J0 J1 J2 ds;have:=m.few;omega
theorem uI{J0 J1 J2:Zb}{ds:List ar}{H:Hp}{us:Ze}(R:gp H us (aJ J0 J1 J2 ds)):∃u0 u1 u2 vs,us=u0::u1::u2::vs/\H u0=some (.lst ((("asks":Str)::J0).map V.str))/\H u1=some (.lst ((("says":Str)::J1).map V.str))/\H u2=some (.lst ((("rooms":Str)::J2).map V.str))/\gp H vs (ds.map az):=by
 cases R with
 |cons h0 R=>cases R with
  |cons h1 R=>cases R with
   |cons h2 R=>exact⟨_,_,_,_,rfl,h0,h1,h2,R⟩
inductive sp_read(C:Addr)(vs:List V)(H:Hp)(Q:VK)(E:XK):Prop
 |mk (J0 J1 J2:Zb) (ds:List ar):(vs=[.str (bZ (aJ J0 J1 J2 ds))])->(aI J0 J1 J2 ds)->(∀(x:Addr) (H':Hp),dz C H' x J0 J1 J2 ds->ae H H'->Q (.ref x) H')->sp_read C vs H Q E
theorem At{K:Za}{C aH:Addr}(c:∀H,bN K H aH (f_.map V.str)){vs:List V}{H:Hp}{Q:VK}{E:XK}(h:sp_read C vs H Q E):BR K C (j_ C) aH iX fW (cf Q) (start CD vs) H:=by
 obtain⟨J0,J1,J2,ds,rfl,m,k⟩:=h;have zl:=m.len;have zr:=tf J0 J1 J2 ds;have zd:=m.few;refine⟨_,rfl,rfl,_,_,rfl,rfl,(by decide +kernel),bF zl tI,?_,?_⟩
 ·rw[m.split,bd,ap,zr];exact fR (bX (by simp;omega))
 rw[m.split];intro l hl;have S1:ae H (upd H l (.lst (((aJ J0 J1 J2 ds).map df++[("":Str)]).map V.str))):=ae.new hl;have e1:upd H l (.lst (((aJ J0 J1 J2 ds).map df++[("":Str)]).map V.str)) l=some (.lst ((((aJ J0 J1 J2 ds).map df).map V.str)++[.str ""])):=by rw[aa,aM];rfl
 generalize upd H l (.lst (((aJ J0 J1 J2 ds).map df++[("":Str)]).map V.str))=H1 at S1 e1 ⊢;refine⟨_,rfl,_,rfl,_,rfl,l,_,rfl,aA.of e1,fun q hq=>?_⟩;rw[zP];have S2:ae H1 (upd H1 q (.lst (((aJ J0 J1 J2 ds).map df).map V.str))):=ae.new hq;have e2:upd H1 q (.lst (((aJ J0 J1 J2 ds).map df).map V.str)) q=some (.lst (((aJ J0 J1 J2 ds).map df).map V.str)):=aa;generalize upd H1 q (.lst (((aJ J0 J1 J2 ds).map df).map V.str))=H2 at S2 e2 ⊢;refine⟨q,rfl,⟨_,aA.of e2⟩,fun f hf=>?_⟩;refine em (xs:=((aJ J0 J1 J2 ds).map df).map V.str) (fun i vs H'=>∃us:List Addr,vs=us.map V.ref/\oJ f H' us ((aJ J0 J1 J2 ds).take i)/\ae H2 H'/\H' f=some (.lst vs)) ⟨[],rfl,.nil,ae.new hf,aa⟩ (fun i vs H' _ ⟨_,_,_,S,h'⟩=>⟨h',aA.of (S _ _ e2)⟩) ?_ ?_;rotate_left
 ·rintro i vs H' x hx hi ⟨us,rfl,R,S,f'⟩;obtain⟨t,ht,rfl⟩:=dF hx;rw[cA]at ht;obtain⟨r,hr,rfl⟩:=qA.mp ht;have rin:=bU hr;refine gN (qH ⟨_,rfl,rfl,_,_,rfl,rfl,(by decide +kernel),?_,?_,?_⟩)
  ·have:=re (m.rows r rin);exact bF (bF this (by decide)) tI
  ·rw[pH (aI.rows0 r rin) fun w hw=>(m.pl r rin w hw).sp];exact fR (bX (by have:=(m.rows r rin).1;omega))
  rw[pH (aI.rows0 r rin) fun w hw=>(m.pl r rin w hw).sp];intro u hu;have nu:u≠f:=fun z=>by rw[z,f']at hu;cases hu
  refine⟨kp f' hu,?_,xG hi ⟨us++[u],by rw[aM];rfl,?_,?_,aa⟩⟩
  ·rw[ap,Paired.length R,bf];exact bX (by omega)
  ·rw[take_snoc hr];exact R.add (ae.new hu) nu aa
  ·intro b o e;rw[ai (ah e hf)];exact kp (S _ _ e) hu
 rintro vs H3 ⟨us,rfl,R3,S3,f3⟩;rw[ap,ap,c9]at R3;have R3:=R3.at_;refine⟨_,rfl,_,rfl,_,rfl,l,_,-1,.str "",rfl,rfl,aA.of (S3 _ _ (S2 _ _ e1)),tZ _ _,?_⟩;refine⟨f,us,J0,J1,J2,ds,rfl,m,f3,R3,fun H4 S4=>?_⟩;have f4:=S4 _ _ f3;have R4:=R3.same S4;have S04:ae H H4:=((S1.trans S2).trans S3).trans S4;clear S1 S2 S3 S4 e1 e2 f3 R3;obtain⟨u0,u1,u2,ws,rfl,h0,h1,h2,RD⟩:=uI R4;refine⟨_,rfl,.inl ⟨aH,_,rfl,.inr (c H4),_,rfl,f,_,rfl,aA.of f4,fun q hq=>?_⟩⟩;have ec:dD ((u0::u1::u2::ws).map V.ref) none (some (((f_.map V.str).length:Nat):Int))=[u0,u1,u2].map V.ref:=by
  rw[zR];rfl
 rw[ec];have S5:ae H4 (upd H4 q (.lst ([u0,u1,u2].map V.ref))):=ae.new hq;have e5:upd H4 q (.lst ([u0,u1,u2].map V.ref)) q=some (.lst ([u0,u1,u2].map V.ref)):=aa;generalize upd H4 q (.lst ([u0,u1,u2].map V.ref))=H5 at S5 e5 ⊢;have R5:gp H5 [u0,u1,u2] [("asks":Str)::J0,("says":Str)::J1,("rooms":Str)::J2]:=.cons (S5 _ _ h0) (.cons (S5 _ _ h1) (.cons (S5 _ _ h2) .nil));refine⟨q,rfl,⟨_,aA.of e5⟩,fun g hg=>?_⟩;refine em (xs:=[u0,u1,u2].map V.ref) (fun i vs H'=>∃us:List Addr,vs=us.map V.ref/\oJ g H' us ([J0,J1,J2].take i)/\ae H5 H'/\H' g=some (.lst vs)) ⟨[],rfl,.nil,ae.new hg,aa⟩ (fun i vs H' _ ⟨_,_,_,S,h'⟩=>⟨h',aA.of (S _ _ e5)⟩) ?_ ?_;rotate_left
 ·rintro i vs H' x hx hi ⟨us,rfl,R,S,g'⟩;obtain⟨t,ht,rfl⟩:=eJ hx;obtain⟨r,hr,hat⟩:=Paired.getL R5 ht;obtain⟨a,r',er,hr'⟩:∃(a:Str) (r':Zb),r=a::r'/\[J0,J1,J2][i]?=some r':=by
   have hi:i<3:=hi;have:i=0∨i=1∨i=2:=by omega
   rcases this with rfl|rfl|rfl<;>cases hr<;>exact⟨_,_,rfl,rfl⟩
  subst er;refine gN (qH ⟨_,rfl,_,rfl,t,_,rfl,aA.of (S _ _ hat),?_⟩);rw[show(1:Int)=((1:Nat):Int)from rfl,p4];show ∀p,H' p=none->_;intro u hu;have nu:u≠g:=fun z=>by rw[z,g']at hu;cases hu
  refine⟨kp g' hu,?_,xG hi ⟨us++[u],by rw[aM];rfl,?_,?_,aa⟩⟩
  ·rw[ap,Paired.length R,bf];exact bX (by show min i 3<=_;omega)
  ·rw[take_snoc hr'];exact R.add (ae.new hu) nu aa
  ·intro b o e;rw[ai (ah e hg)];exact kp (S _ _ e) hu
 rintro vs H6 ⟨us,rfl,R6,S6,g6⟩;have R6:gp H6 us [J0,J1,J2]:=R6.at_;obtain⟨v0,v1,v2,rfl,k0,k1,k2⟩:∃v0 v1 v2,us=[v0,v1,v2]/\H6 v0=some (.lst (J0.map V.str))/\H6 v1=some (.lst (J1.map V.str))/\H6 v2=some (.lst (J2.map V.str)):=by
  cases R6 with
  |cons a R=>cases R with
   |cons b R=>cases R with
    |cons d R=>cases R with
     |nil=>exact⟨_,_,_,rfl,a,b,d⟩
 refine⟨g,_,rfl,aA.of g6,rfl,_,_,rfl,_,_,rfl,_,_,rfl,rfl,?_⟩;refine⟨_,rfl,_,rfl,_,rfl,_,rfl,.inl ⟨aH,_,rfl,.inr (c H6),_,rfl,f,_,rfl,aA.of (S6 _ _ (S5 _ _ f4)),fun q' hq'=>?_⟩⟩;have ec2:dD ((u0::u1::u2::ws).map V.ref) (some (((f_.map V.str).length:Nat):Int)) none=ws.map V.ref:=by
  rw[vj];rfl
 rw[ec2];have S7:ae H6 (upd H6 q' (.lst (ws.map V.ref))):=ae.new hq';have e7:upd H6 q' (.lst (ws.map V.ref)) q'=some (.lst (ws.map V.ref)):=aa;generalize upd H6 q' (.lst (ws.map V.ref))=H7 at S7 e7 ⊢;have RD7:gp H7 ws (ds.map az):=((RD.same S5).same S6).same S7;have lws:ws.length=ds.length:=by rw[Paired.length RD7,ap]
 refine⟨q',rfl,⟨_,aA.of e7⟩,fun d hd=>?_⟩;refine em (xs:=ws.map V.ref) (fun i vs H'=>∃ts:List Addr,vs=ts.map V.ref/\cP H' ts (ds.take i)/\ae H7 H'/\H' d=some (.lst vs)) ⟨[],rfl,.nil,ae.new hd,aa⟩ (fun i vs H' _ ⟨_,_,_,S,h'⟩=>⟨h',aA.of (S _ _ e7)⟩) ?_ ?_;rotate_left
 ·rintro i vs H' x hx hi ⟨ts,rfl,D,S,d'⟩;obtain⟨t,ht,rfl⟩:=eJ hx;obtain⟨r,hr,hat⟩:=Paired.getL RD7 ht;rw[cA]at hr;obtain⟨dr,hdr,rfl⟩:=qA.mp hr;refine gN (qH ⟨_,rfl,t,dr,rfl,S _ _ hat,?_,fun u H8 hu8 S8=>?_⟩)
  ·have:=(m.door (bU hdr)).1;unfold az at this;simp at this;omega
  have S78:=S.trans S8;refine⟨S8 _ _ d',?_,xG hi ⟨ts++[u],by rw[aM];rfl,?_,?_,aa⟩⟩
  ·rw[ap,Paired.length D,bf];exact bX (by omega)
  ·rw[take_snoc hdr];exact Paired.app ((D.kt (ae.kt S8)).kt (jJ (S8 _ _ d'))) (.cons (hu8.kt (jJ (S8 _ _ d'))) .nil)
  ·intro b o e;rw[ai (ah e hd)];exact S78 _ _ e
 rintro vs H8 ⟨ts,rfl,D8,S8,d8⟩;rw[ap,lws,c9]at D8;refine fun x dx hx hdx hne=>?_;have hxx:upd H8 dx (.own x) x=none:=by rw[ai hne.symm];exact hx
 have S9:ae H8 (upd (upd H8 dx (.own x)) x (.ins C dx [])):=(ae.new hdx).trans (ae.new hxx);have S08:ae H H8:=(((S04.trans S5).trans S6).trans S7).trans S8;have S68:=S7.trans S8;refine⟨x,dx,v0,v1,v2,d,ts,J0,J1,J2,ds,rfl,aa,⟨S9 _ _ (S68 _ _ k0),S9 _ _ (S68 _ _ k1),S9 _ _ (S68 _ _ k2),S9 _ _ d8,D8.kt (ae.kt S9)⟩,m,fun H' M ex=>⟨rfl,k x H' M fun b o e=>?_⟩⟩;exact ex _ _ (S9 _ _ (S08 _ _ e)) (ah (S08 _ _ e) hx)
theorem v5{K:Za}{C x:Addr}{J0 J1 J2:Zb}{ds:List ar}{H:Hp}{Q:VK}{E:XK}(M:dz C H x J0 J1 J2 ds)(k:∀H',ae H H'->Q (.str (bZ (aJ J0 J1 J2 ds))) H'):fE K C [.ref x] H Q E:=by
 refine⟨[.im (mv C J0 J1 J2 ds)],[],fun r _=>r=bQ K (aP (bZ (aJ J0 J1 J2 ds))),⟨H,H,fun _=>0,fun _=>False⟩,rfl,rfl,(fun _ _ e=>nomatch e),⟨ae.refl _,(fun _ e=>e.elim),(fun _ _ e=>nomatch e),(fun _ _ _ _ e=>nomatch e),ir⟩,.cons ⟨x,rfl,M⟩ .nil,⟨rfl,J0,J1,J2,ds,M.ok,rfl,rfl⟩,?_⟩;intro r v h' m' e w f o;subst e;have o:DR K m'.G (aP (bZ (aJ J0 J1 J2 ds))) v:=o;unfold aP DR at o;rw[o];exact k _ fun a o q=>w.hh a o q (fun z=>z) (fun z=>by simp[CA]at z)
theorem xa{K:Za}{t l1 l2 l3 l4:Addr}{ts:Ze}{J0 J1 J2:Zb}{ds:List ar}{H:Hp}{Q:VK}{E:XK}(T:oI H t l1 l2 l3 l4 ts J0 J1 J2 ds)(m:aI J0 J1 J2 ds)(k:∀H',ae H H'->Q (.str (bZ (aJ J0 J1 J2 ds))) H'):gU K [.ref t] H Q E:=by
 refine⟨[bQ K (Bi J0 J1 J2 ds)],[],fun r _=>r=bQ K (aP (bZ (aJ J0 J1 J2 ds))),⟨H,H,fun _=>0,fun _=>False⟩,rfl,rfl,(fun _ _ e=>nomatch e),⟨ae.refl _,(fun _ e=>e.elim),(fun _ _ e=>nomatch e),(fun _ _ _ _ e=>nomatch e),ir⟩,.cons (A2 T) .nil,⟨rfl,J0,J1,J2,ds,m,rfl,rfl⟩,?_⟩;intro r v h' m' e w f o;subst e;have o:DR K m'.G (aP (bZ (aJ J0 J1 J2 ds))) v:=o;unfold aP DR at o;rw[o];exact k _ fun a o q=>w.hh a o q (fun z=>z) (fun z=>by simp[CA]at z)
theorem s_{K:Za}{x:Str}{H:Hp}{Q:VK}{E:XK}(k:∀H',ae H H'->Q (.bl true) H'):dH K 4 [.str x,.str x] H Q E :=
 pK (d:=aP x) (by unfold aP DR;rfl) (by unfold aP DR;rfl) (cy _) (by decide) rfl k
inductive fV(vs:List V)(H:Hp)(Q:VK)(E:XK):Prop
 |mk (J0 J1 J2:Zb) (ds:List ar):(vs=[.str (bZ (aJ J0 J1 J2 ds))])->(aI J0 J1 J2 ds)->(∀(r r1 r2 r3 r4:Addr) (us:Ze) (H':Hp),H' r=some (.lst [.ref r1,.ref r2,.ref r3,.ref r4])->Lists H' r1 r2 r3 r4 us J0 J1 J2 ds->ae H H'->Q (.ref r) H')->fV vs H Q E
theorem tj{K:Za}{C Cx Cn:Addr}{vs:List V}{H:Hp}{Q:VK}{E:XK}(h:fV vs H Q E):mo K C (iy C) (gC C) (iT C) (iY C) (sp_read C) Cx Cn (cf Q) (start mF vs) H:=by
 obtain⟨J0,J1,J2,ds,rfl,m,k⟩:=h;refine⟨_,rfl,J0,J1,J2,ds,rfl,m,fun x H1 M S1=>?_⟩;refine⟨_,rfl,_,rfl,?_⟩;rw[zzr0 (by intro z;cases z)];refine bE ?_;obtain⟨dx,fs,o1,o2,o3,o4,lv,qu,sg,sl,ts,lps,gps,sps,g1,_,_,_,a4,b1,b2,b3,b4,b5,b6,b7,b8,LL,_⟩:=id M.at_;obtain⟨dx',fs',g1',e1,e2,e3,_⟩:=id M.more;rw[g1]at g1';cases g1';refine⟨_,rfl,x,dx,fs,rfl,g1,e1,x,J0,J1,J2,ds,rfl,M,fun r1 k1=>?_⟩;have T1:ae H1 (upd H1 r1 (.lst (J0.map V.str))):=ae.new k1;refine⟨_,rfl,x,dx,fs,rfl,T1 _ _ g1,e2,x,J0,J1,J2,ds,rfl,M.same T1,fun r2 k2=>?_⟩;have T2:=T1.trans (ae.new (o:=.lst (J1.map V.str)) k2);refine⟨_,rfl,x,dx,fs,rfl,T2 _ _ g1,a4,x,J0,J1,J2,ds,rfl,M.same T2,fun r3 k3=>?_⟩;have T3:=T2.trans (ae.new (o:=.lst (J2.map V.str)) k3);refine⟨_,rfl,x,dx,fs,rfl,T3 _ _ g1,e3,x,dx,o4,fs,ts,rfl,T3 _ _ g1,b4,T3 _ _ LL.a4,fun r4 k4=>?_⟩;have T4:=T3.trans (ae.new (o:=.lst (ts.map V.ref)) k4);refine⟨(by show 4<=aj;decide),fun r kr=>?_⟩;have T5:=T4.trans (ae.new (o:=.lst [.ref r1,.ref r2,.ref r3,.ref r4]) kr);refine k r r1 r2 r3 r4 ts _ aa ⟨?_,?_,?_,?_,LL.ds.kt (ae.kt T5)⟩ (S1.trans T5)
 ·exact kp (kp (kp (kp aa k2) k3) k4) kr
 ·exact kp (kp (kp aa k3) k4) kr
 ·exact kp (kp aa k4) kr
 ·exact kp aa kr
def z5(f:Addr)(H:Hp)(u:Addr):Prop:=∃(l1 l2 l3 l4:Addr) (ts:Ze) (J0 J1 J2:Zb) (ds:List ar),l4≠f/\oI H u l1 l2 l3 l4 ts J0 J1 J2 ds/\aI J0 J1 J2 ds
theorem z5.upd{f:Addr}{H:Hp}{us:Ze}{xs:List V}{u:Addr}(h:z5 f H u)(hf:H f=some (.lst (us.map V.ref))):z5 f (L2.upd H f (.lst xs)) u:=by
 obtain⟨l1,l2,l3,l4,ts,J0,J1,J2,ds,n4,T,m⟩:=h;have ne:∀{l:Addr}{ws:Zb},ws≠[]->H l=some (.lst (ws.map V.str))->l≠f:=fun{l ws} w0 hl z=>by
  rw[z,hf]at hl;cases ws with
  |nil=>exact w0 rfl
  |cons w ws=>cases us with
   |nil=>cases hl
   |cons a as=>cases hl
 have nt:u≠f:=fun z=>by have:=T.t;rw[z,hf]at this;cases this
 exact⟨l1,l2,l3,l4,ts,J0,J1,J2,ds,n4,⟨by rw[ai nt];exact T.t,by rw[ai (ne m.asks0 T.a1)];exact T.a1,by rw[ai (ne m.says0 T.a2)];exact T.a2,by rw[ai (ne m.rooms0 T.a3)];exact T.a3,by rw[ai n4];exact T.a4,T.ds.kt (jJ hf)⟩,m⟩
inductive sp_law87(K:Za)(vs:List V)(H:Hp)(Q:VK)(E:XK):Prop
 |mk (a:Addr) (ns:List Int):(vs=[.ref a])->(aA K H a (ns.map V.int))->(ns.length<=63)->(∀H',Q (.bl true) H')->sp_law87 K vs H Q E
theorem yR{K:Za}{C:Addr}{vs:List V}{H:Hp}{Q:VK}{E:XK}(h:sp_law87 K vs H Q E):Al K (dH K 4) (fE K C) (sp_read C) fV (gU K) (gV C) iU (mL K) (cf Q) (start wU vs) H:=by
 obtain⟨a,ns,rfl,hs,hn,k⟩:=h;refine⟨_,rfl,a,ns,rfl,hs,hn,fun p c H1 _ hp1 S1=>?_⟩;refine⟨2,rfl,by decide,by decide,fun f hf=>?_⟩;have fp:=hp1.nep hf;have fc:=hp1.nec hf;refine oz (lo:=0) (n:=2) (fun i vs H'=>∃us:List Addr,vs=us.map V.ref/\us.length=i/\(∀u∈us,z5 f H' u)/\eZ H' p c/\H' f=some (.lst vs)) ⟨[],rfl,rfl,by simp,hp1.ex (ae.new hf),aa⟩ (fun i vs H' _ ⟨_,_,_,_,_,h'⟩=>h') ?_ ?_;rotate_left
 ·rintro i vs H' hi ⟨us,rfl,lu,M,hp,f'⟩;refine gN (qH ⟨_,rfl,_,rfl,p,c,9,_,rfl,hp,by decide,by decide,by omega,by omega,fun t l1 l2 l3 l4 ts J0 J1 J2 ds H2 T m _ _ hp2 ex fr=>?_⟩);have f2:=ex _ _ f' fp.symm;have M2:∀u∈us++[t],z5 f H2 u:=fun u hu=>by
   rcases bO.mp hu with hu|hu
   ·obtain⟨l1,l2,l3,l4,ts,J0,J1,J2,ds,n4,T,m⟩:=M u hu;exact⟨l1,l2,l3,l4,ts,J0,J1,J2,ds,n4,T.ex hp ex,m⟩
   ·have:u=t:=by simpa using hu
    subst this;exact⟨l1,l2,l3,l4,ts,J0,J1,J2,ds,(fun z=>by rw[z,f']at fr;cases fr),T,m⟩
  refine⟨f2,by rw[ap,lu];exact bX (by omega),xG hi ⟨us++[t],by rw[aM];rfl,by rw[bd,lu];rfl,fun u hu=>(M2 u hu).upd f2,hp2.upd fp fc,aa⟩⟩
 rintro vs H2 ⟨us,rfl,lu,M2,hp2,f2⟩;refine⟨_,rfl,_,rfl,f,f,_,_,rfl,rfl,f2,f2,by rw[ap,lu];decide,fun g hg=>?_⟩;have S3:ae H2 (upd H2 g (.lst (us.map V.ref++us.map V.ref))):=ae.new hg;have g3:upd H2 g (.lst (us.map V.ref++us.map V.ref)) g=some (.lst ((us++us).map V.ref)):=by rw[aM];exact aa
 generalize upd H2 g (.lst (us.map V.ref++us.map V.ref))=H3 at S3 g3 ⊢;refine⟨g,rfl,⟨_,aA.of g3⟩,?_⟩;refine fH (xs:=(us++us).map V.ref) (fun i σ H'=>∃x y,σ=[some (.ref a),some (.ref p),some (.ref f),x,y]/\ae H3 H') ⟨_,_,rfl,ae.refl _⟩ (fun i σ H' _ ⟨_,_,_,S⟩=>aA.of (S _ _ g3)) ?_ ?_;rotate_left
 ·rintro σ H' ⟨x,y,rfl,S⟩;exact k H'
 rintro i v σ H4 hi ⟨x,y,rfl,S4⟩;obtain⟨u,hu,rfl⟩:=eJ hi;have hu:u∈us:=by rcases bO.mp (bU hu)with h|h<;>exact h
 obtain⟨l1,l2,l3,l4,ts,J0,J1,J2,ds,n4,T,m⟩:=M2 u hu;have T:=(T.same S3).same S4;refine gN ?_;refine⟨_,rfl,u,l1,l2,l3,l4,ts,J0,J1,J2,ds,rfl,T,m,fun x5 H5 M5 S5=>?_⟩;refine v5 M5 fun H6 S6=>?_;have T6:=(T.same S5).same S6;refine⟨_,rfl,_,rfl,xa T6 m fun H7 S7=>?_⟩;refine s_ fun H8 S8=>⟨_,rfl,bE ?_⟩;have T8:=(T6.same S7).same S8;refine⟨_,rfl,J0,J1,J2,ds,rfl,m,fun r r1 r2 r3 r4 vs H9 hr L9 S9=>?_⟩;have T9:=T8.same S9;refine⟨_,rfl,.inl ⟨u,_,rfl,.inr (bN.of T9.t),fun q hq=>?_⟩⟩;have S10:ae H9 (upd H9 q (.lst [.ref l1,.ref l2,.ref l3,.ref l4])):=ae.new hq;have q10:upd H9 q (.lst [.ref l1,.ref l2,.ref l3,.ref l4]) q=some (.lst [.ref l1,.ref l2,.ref l3,.ref l4]):=aa;generalize upd H9 q (.lst [.ref l1,.ref l2,.ref l3,.ref l4])=H10 at S10 q10 ⊢;have T10:=T9.same S10;have L10:Lists H10 l1 l2 l3 l4 ts J0 J1 J2 ds:=⟨T10.a1,T10.a2,T10.a3,T10.a4,T10.ds⟩;have sg:∀d∈ds,d.sg.length<=1000000:=fun d hd=>by have:=(m.door hd).1;unfold az at this;simp at this;omega
 refine pK (d:=.s (lq J0 J1 J2 ds)) ((L9.same S10).dr (S10 _ _ hr)) (L10.dr q10) (by show DT.depths _+1<=4;have:=rT J0 J1 J2 ds;omega) (by decide) (yJ m.few' sg) fun H11 S11=>⟨_,rfl,bE ?_⟩;refine⟨_,rfl,J0,J1,J2,ds,rfl,m,fun x12 H12 M12 S12=>?_⟩;refine v5 M12 fun H13 S13=>⟨_,rfl,s_ fun H14 S14=>⟨_,rfl,bE ⟨_,_,rfl,?_⟩⟩⟩;exact(((((((((S4.trans S5).trans S6).trans S7).trans S8).trans S9).trans S10).trans S11).trans S12).trans S13).trans S14
def gM(i:Nat):Stmt:=PySem.Challenge.pw_mumtrial_k87_read_back.main.body.getD i (.Pass ⟨0,0,0,0⟩)
local macro_rules | `(tactic| walk_at "s")=>`(tactic| exact⟨rfl,rfl,rfl,by decide +kernel,rfl,by decide +kernel,by decide +kernel⟩)
local macro_rules | `(tactic| walk_at "l")=>`(tactic| (intro _ _ _ _ h;first|exact Df h|exact len_g h|(cases h;subst_vars;rfl)|(obtain⟨_,_,h,_⟩:=h;subst h;rfl)|((repeat obtain⟨_,h⟩:=h);subst_vars;rfl)))
theorem zzlS{us:List Value}{n:Nat}(h:us.length=n+1):∃ a t,us=a::t∧t.length=n:=by
  cases us with
  |nil=>cases h
  |cons a t=>exact⟨a,t,rfl,Nat.succ.inj h⟩
local macro_rules | `(tactic| walk_at "b")=>`(tactic| (intro _ _ _ _ _ _ us hl;(repeat (have h:=zzlS hl;clear hl;obtain⟨_,_,e,hl⟩:=h;subst e));cases List.eq_nil_of_length_eq_zero hl;rfl))
def DD(K:Za)(x qual:Str)(st:Stmt)(f:Addr):Prop:=∃(oc:Value) (od an:Option Addr) (sl:Array (Option Value)) (kV dc pm cd ct:Value),
 K.lookup f=some ⟨oc,od,.func (fy x qual (ff st) (dQ st) (bp st) .none kV dc pm an cd ct),sl⟩/\jx K cd qual=true/\e_ K (.ref f)=true
theorem zD{K:Za}{x qual:Str}{st:Stmt}{f:Addr}{oc:Value}{od an:Option Addr}{sl:Array (Option Value)}{kV dc pm cd ct:Value}(l:K.lookup f=some ⟨oc,od,.func (fy x qual (ff st) (dQ st) (bp st) .none kV dc pm an cd ct),sl⟩)
  (c:jx K cd qual=true) (k:e_ K (.ref f)=true):DD K x qual st f:=⟨oc,od,an,sl,kV,dc,pm,cd,ct,l,c,k⟩
def iN(K:Za)(x:Str)(st:Stmt):Prop:=∃f,bC K bh x=some (some (.ref f))/\DD K x x st f
theorem fnG_mk{K:Za}{x:Str}{st:Stmt}{f:Addr}{oc:Value}{od an:Option Addr}{sl:Array (Option Value)}{kV dc pm cd ct:Value}(a:bC K bh x=some (some (.ref f)))(l:K.lookup f=some ⟨oc,od,.func (fy x x (ff st) (dQ st) (bp st) .none kV dc pm an cd ct),sl⟩)
  (c:jx K cd x=true) (k:e_ K (.ref f)=true):iN K x st:=⟨f,a,zD l c k⟩
def BJ(K:Za)(C:Addr)(m qual:Str)(st:Stmt):Prop:=∃f,bx K (.ref C) m=some (some (.ref f))/\sF K (.ref f)=true/\DD K m qual st f
theorem fnM_mk{K:Za}{C:Addr}{m qual:Str}{st:Stmt}{f:Addr}{oc:Value}{od an:Option Addr}{sl:Array (Option Value)}{kV dc pm cd ct:Value}(a:bx K (.ref C) m=some (some (.ref f)))(i:sF K (.ref f)=true)
  (l:K.lookup f=some ⟨oc,od,.func (fy m qual (ff st) (dQ st) (bp st) .none kV dc pm an cd ct),sl⟩) (c:jx K cd qual=true) (k:e_ K (.ref f)=true):BJ K C m qual st:=⟨f,a,i,zD l c k⟩
theorem DD.fun_{K:Za}{x qual:Str}{st:Stmt}{f:Addr}(T:DD K x qual st f):∃fd,CQ K x qual st f fd:=by
 obtain⟨oc,od,an,sl,kV,dc,pm,cd,ct,l,c,k⟩:=T;exact⟨_,zC (st:=st) l c k⟩
def C0:Sp:=fun _ _ _ _=>False
theorem C_{P:bj}{w:World}{K:Za}{mg:Str->Option Value}{base:Heap}{k:Nat}{f:Addr}{fd:hV}{ps:Zb}:jg P w K mg base CX0 k f fd ps C0:=⟨fun _ _ _ _ h=>h.elim,fun _ _ _ _ _ _ _ _ _ _ _ _ _ h=>h.elim⟩
def CB(K:Za)(a:Addr)(ws:Zb):Prop:=∀H,bN K H a (ws.map V.str)
theorem vT{K:Za}{a:Addr}{ws:Zb}{o:Obj}{its:Array Value}{n:Nat}(l:K.lookup a=some o)(c:o.cls=.type "tuple")(d:o.data=.seq its n)(z:its.size<=aj)(v:aK (ws.map V.str) its.toList):CB K a ws :=
 fun _=>.inr ⟨o,its,n,l,c,d,z,v⟩
section
variable{P:bj}{w:World}{K:Za}{mg:Str->Option Value}{base h:Heap}{C:Addr}{x qual:Str}{st:Stmt}{N ps:Zb}{k:Nat}{sp:Sp}
abbrev z6(ps:Zb)(sp:Sp):Prop:=∀vs H Q E,sp vs H Q E->vs.length=ps.length
abbrev BodyOk(CX:ym)(P:bj)(w:World)(K:Za)(mg:Str->Option Value)(base:Heap)(qual:Str)(st:Stmt)(N:Zb)(k:Nat)(sp:Sp)(nox:Cx->Cx):Prop:=N.Nodup->∀(f:Addr) (cdv:Value) (A:Around) (outer:List Env) (s:Shared) (H:Hp) (vs:List V) (Q:VK) (E:XK),dw k (A.deeper (envOfC qual (bp st) s.heap.objs.size f cdv))->(A.deeper (envOfC qual (bp st) s.heap.objs.size f cdv)).units+16<cLine->sp vs H Q E ->
 ∃t,t5 (nox (vi CX P w K mg base N qual (bp st) f cdv A outer s H E)) (dQ st) t/\t (cf Q) (start N vs) H
abbrev vB(x qual:Str)(st:Stmt)(ps:Zb):Prop:=∀(kV doc pm:Value) (an:Option Addr) (cdv ct:Value) (us:Zf),us.length=ps.length->bindArgs (fy x qual (ff st) (dQ st) (bp st) .none kV doc pm an cdv ct) ⟨us,[]⟩=pure (ps.zip us)
theorem dG(X:K.In h)(G:h.Ns bh mg)(T:iN K x st)(b:BodyOk CX0 P w K mg base x st N k sp Cx.nox)(bi:vB x x st ps)(S:hC N ps (bp st):=by walk_at "s")(l:z6 ps sp:=by walk_at "l"):ic P w K mg base x ps (k+1) sp:=by
 obtain⟨f,a,t⟩:=T;obtain⟨fd,F⟩:=t.fun_;exact⟨f,fd,F.ok S l fun cdv A outer s H vs Q E hr h=>b S.nd f cdv A outer s H vs Q E hr (ww hr) h,dq X G a,F.kp,F.binds bi⟩
theorem dM(cl:yk K C)(T:BJ K C x qual st)(b:BodyOk CX0 P w K mg base qual st N k sp Cx.nox)(bi:vB x qual st ps)(S:hC N ps (bp st):=by walk_at "s")(l:z6 ps sp:=by walk_at "l"):CF P w K mg base C x ps (k+1) sp:=by
 obtain⟨f,a,i,t⟩:=T;obtain⟨fd,F⟩:=t.fun_;exact⟨f,fd,F.ok S l fun cdv A outer s H vs Q E hr h=>b S.nd f cdv A outer s H vs Q E hr (ww hr) h,cl,⟨a,i,F.kp⟩,F.binds bi⟩
theorem dN{y:Str}(cm:mg y=some (.ref C))(mk:sD K C=true)(kc:e_ K (.ref C)=true)(T:BJ K C "__init__" qual st)(b:BodyOk CX0 P w K mg base qual st N k sp Cx.nox)(bi:vB "__init__" qual st ps)(S:hC N ps (bp st):=by walk_at "s")(l:z6 ps sp:=by walk_at "l"):New P w K mg base y C ps (k+1) sp:=by
 obtain⟨f,a,i,t⟩:=T;obtain⟨fd,F⟩:=t.fun_;exact⟨f,fd,F.ok S l fun cdv A outer s H vs Q E hr h=>b S.nd f cdv A outer s H vs Q E hr (ww hr) h,cm,⟨mk,a,i,kc⟩,F.binds bi⟩
end
structure Zs(mg:Str->Option Value):Prop where
 all:mg "all"=none
 bool:mg "bool"=none
 dict:mg "dict"=none
 enumerate:mg "enumerate"=none
 int:mg "int"=none
 isinstance:mg "isinstance"=none
 len:mg "len"=none
 list:mg "list"=none
 range:mg "range"=none
 str:mg "str"=none
 tuple:mg "tuple"=none
 zip:mg "zip"=none
structure Cs(K:Za)(mg:Str->Option Value)(C Cx Ct a_STILL a_HEADS C_NoText:Addr):Prop where
 LETTERS:Gc mg "LETTERS" (.str "abcdefghijklmnopqrstuvwxyz")
 LONGEST_NAME:Gc mg "LONGEST_NAME" (.int 8)
 MOST_WORDS:Gc mg "MOST_WORDS" (.int 4)
 MOST_ROOMS:Gc mg "MOST_ROOMS" (.int 150)
 MOST_DOORS:Gc mg "MOST_DOORS" (.int 2000)
 STILL:Gc mg "STILL" (.ref a_STILL)
 HEADS:Gc mg "HEADS" (.ref a_HEADS)
 still:CB K a_STILL a_
 heads:CB K a_HEADS f_
 mc:MC K C
 cm:mg "Machine"=some (.ref C)
 makes:sD K C=true
 kc:e_ K (.ref C)=true
 xc:XC K Cx
 xb:Du K Ct
 NoMachine:mg "NoMachine"=some (.ref Cx)
 TrialError:mg "TrialError"=some (.ref Ct)
 kx:e_ K (.ref Cx)=true
 xt:XO K Ct iu
 xg:XG K
 x_NoMachine:XX K mg "NoMachine" Cx Ct
 nd:[Ct,Cx,C_NoText].Nodup
 x_NoText:XX K mg "NoText" C_NoText Ct
 na_NoText_number:cN K C_NoText "number"
structure Ts(K:Za)(C Cx C_NoText:Addr):Prop where
 f_law_spread:iN K "_law_spread" (gM 36)
 f_law_open:iN K "_law_open" (gM 37)
 f_law_anew:iN K "_law_anew" (gM 38)
 f_law_take:iN K "_law_take" (gM 39)
 f_law_names:iN K "_law_names" (gM 40)
 f_law_put:iN K "_law_put" (gM 42)
 f_law_draw_doors:iN K "_law_draw_doors" (gM 43)
 f_law_model:iN K "_law_model" (gM 44)
 f_is_name:iN K "is_name" (gM 12)
 f_as_keys:iN K "as_keys" (gM 13)
 f_first_wrong_name:iN K "first_wrong_name" (gM 14)
 f_door_signs:iN K "door_signs" (gM 15)
 f_first_wrong_door:iN K "first_wrong_door" (gM 16)
 f_goals_by_start_and_sign:iN K "goals_by_start_and_sign" (gM 17)
 f_led_by_still:iN K "led_by_still" (gM 18)
 f_first_led_round:iN K "first_led_round" (gM 19)
 f_need_none:iN K "need_none" (gM 20)
 f_need_parts:iN K "need_parts" (gM 21)
 f_doors_by_start:iN K "doors_by_start" (gM 22)
 f_has_asks_alone:iN K "has_asks_alone" (gM 23)
 f_Machine___init__:BJ K C "__init__" "Machine.__init__" (kq (gM 24) 0)
 f_law_machine:iN K "_law_machine" (gM 46)
 f_Machine_asks:BJ K C "asks" "Machine.asks" (kq (gM 24) 1)
 f_Machine_says:BJ K C "says" "Machine.says" (kq (gM 24) 2)
 f_Machine_rooms:BJ K C "rooms" "Machine.rooms" (kq (gM 24) 3)
 f_Machine_doors:BJ K C "doors" "Machine.doors" (kq (gM 24) 4)
 f_row_of_door:iN K "row_of_door" (gM 27)
 f_shown:iN K "shown" (gM 28)
 f_law_same:iN K "_law_same" (gM 45)
 f_law_text_of:iN K "_law_text_of" (gM 47)
 f_is_head:iN K "is_head" (gM 29)
 f_is_door:iN K "is_door" (gM 30)
 f_is_row:iN K "is_row" (gM 31)
 f_need_rows:iN K "need_rows" (gM 32)
 f_door_of:iN K "door_of" (gM 33)
 f_read:iN K "read" (gM 34)
 f_law_read_told:iN K "_law_read_told" (gM 48)
 f_law87:iN K "law" (gM 49)
section
variable{P:bj}{w:World}{K:Za}{mg:Str->Option Value}{base h:Heap}{C Cx Ct a_STILL a_HEADS C_NoText:Addr}
section
variable(P:bj)(w:World)(K:Za)(mg:Str->Option Value)(C Cx Ct C_NoText:Addr)
abbrev hJ:Prop:=∀base,ic P w K mg base "_law_spread" ["cell","at"] 1 iS
abbrev oQ:Prop:=∀base,ic P w K mg base "_law_open" ["script"] 1 (mL K)
abbrev jW:Prop:=∀base,ic P w K mg base "_law_anew" ["pen"] 1 qY
abbrev fM:Prop:=∀base,ic P w K mg base "_law_take" ["pen","many"] 2 fU
abbrev iR:Prop:=∀base,ic P w K mg base "_law_names" ["pen","many"] 3 j8
abbrev lN:Prop:=∀base,ic P w K mg base "_law_put" ["doors","door"] 1 nR
abbrev eA:Prop:=∀base,ic P w K mg base "_law_draw_doors" ["pen","asks","says","rooms","full"] 3 eD
abbrev mn:Prop:=∀base,ic P w K mg base "_law_model" ["pen","most","full"] 4 iU
abbrev lO:Prop:=∀base,ic P w K mg base "is_name" ["text"] 1 sp_is_name
abbrev gL:Prop:=∀base,ic P w K mg base "as_keys" ["things"] 1 (sp_as_keys K)
abbrev dA:Prop:=∀base,ic P w K mg base "first_wrong_name" ["names","most","taken"] 2 (sp_first_wrong_name K)
abbrev hU:Prop:=∀base,ic P w K mg base "door_signs" ["asks","says"] 1 (sp_door_signs K)
abbrev dB:Prop:=∀base,ic P w K mg base "first_wrong_door" ["doors","rooms","signs"] 2 (sp_first_wrong_door K)
abbrev bW:Prop:=∀base,ic P w K mg base "goals_by_start_and_sign" ["doors"] 1 ka
abbrev fL:Prop:=∀base,ic P w K mg base "led_by_still" ["goals","room"] 1 qW
abbrev dS:Prop:=∀base,ic P w K mg base "first_led_round" ["rooms","led"] 1 sp_first_led_round
abbrev gd:Prop:=∀base,ic P w K mg base "need_none" ["part","number"] 1 sp_need_none
abbrev hE:Prop:=∀base,ic P w K mg base "need_parts" ["asks","says","rooms","doors"] 3 sp_need_parts
abbrev eC:Prop:=∀base,ic P w K mg base "doors_by_start" ["rooms","doors"] 1 sp_doors_by_start
abbrev eB:Prop:=∀base,ic P w K mg base "has_asks_alone" ["doors"] 1 sp_has_asks_alone
abbrev i8:Prop:=∀base,New P w K mg base "Machine" C ["self","asks","says","rooms","doors"] 4 (j_ C)
abbrev jp:Prop:=∀base,ic P w K mg base "_law_machine" ["told"] 6 (gV C)
abbrev dW:Prop:=∀base,CF P w K mg base C "asks" ["self"] 1 (iY C)
abbrev dU:Prop:=∀base,CF P w K mg base C "says" ["self"] 1 (iT C)
abbrev dh:Prop:=∀base,CF P w K mg base C "rooms" ["self"] 1 (gC C)
abbrev dj:Prop:=∀base,CF P w K mg base C "doors" ["self"] 1 (iy C)
abbrev gr:Prop:=∀base,ic P w K mg base "row_of_door" ["door"] 1 (uF K)
abbrev wV:Prop:=∀base,ic P w K mg base "shown" ["M"] 2 (fE K C)
abbrev oP:Prop:=∀base,ic P w K mg base "_law_same" ["found","due"] 5 (dH K 4)
abbrev jo:Prop:=∀base,ic P w K mg base "_law_text_of" ["told"] 1 (gU K)
abbrev lP:Prop:=∀base,ic P w K mg base "is_head" ["words","head"] 1 iV
abbrev lQ:Prop:=∀base,ic P w K mg base "is_door" ["words"] 1 iW
abbrev oR:Prop:=∀base,ic P w K mg base "is_row" ["words","number"] 2 j9
abbrev iQ:Prop:=∀base,ic P w K mg base "need_rows" ["ended","rest"] 4 fW
abbrev lR:Prop:=∀base,ic P w K mg base "door_of" ["words"] 1 iX
abbrev vC:Prop:=∀base,ic P w K mg base "read" ["text"] 6 (sp_read C)
abbrev ie:Prop:=∀base,ic P w K mg base "_law_read_told" ["given"] 7 fV
end
section
variable(X:K.In h)(G:h.Ns bh mg)(z:Zs mg)(c:Cs K mg C Cx Ct a_STILL a_HEADS C_NoText)(T:Ts K C Cx C_NoText)
include X G z c T
theorem oZ:hJ P w K mg:=fun base=>dG X G T.f_law_spread (fun S _ _ _ _ _ _ _ _ _ hr hu h=>bK (xx (K:=K) h) (ac (cj (uo C9 (pv 0) (ay y9 af af)) (ag (ax (pv 0))) aY) (ac (qs 2 S (ay eh (ay cK (ay cK (ay fG (ay eh (pv 0) af) af) (ay fG (pv 1) af)) af) af)) (ac (qs 3 S (ay eh (ay cK (ay cK (ay fG (pv 2) (pv 2)) (ay fG (pv 1) af)) (ay eh (pv 0) af)) af)) (ac (qs 4 S (ay eh (ay cK (ay cK (ay fG (pv 3) (pv 3)) (ay fG (pv 2) af)) af) af)) (ag (ax (ay cK (ay fG (ay cK (ay fG (pv 2) af) (pv 3)) af) (pv 4))))))))) (by walk_at "b")
theorem sW:oQ P w K mg:=fun base=>dG X G T.f_law_open (fun S _ _ _ _ _ _ _ _ _ hr hu h=>bK (Au h) (ac (qs 1 S (qL rfl z.list (a1 (ca dI (pv 0) dJ (b9 af))))) (ac (cv cc rfl (i4 rfl z.enumerate (a1 (ca dI (pv 0) (b9 af) (b9 af)))) (eW rfl (aB (gn 2 S) (aB (gn 3 S) cY))) (ag (iC (ay cK (xl (pv 1) (ay eh (pv 2) af)) (pv 3)) (nY (pv 1) (ay eh (pv 2) af) iz)))) (ag (ax (bH (a3 (pv 1) af af))))))) (by walk_at "b")
theorem sX:jW P w K mg:=fun base=>dG X G T.f_law_anew (fun S _ _ _ _ _ _ _ _ _ hr hu h=>bK (Ax (K:=K) h) (ac (iC af (nY (pv 0) af iz)) (ag (ax (pv 0))))) (by walk_at "b")
theorem sU(D_law_spread:hJ P w K mg):fM P w K mg:=fun base=>dG X G T.f_law_take (fun S _ _ _ _ _ _ _ _ _ hr hu h=>bK (Ar h) (ac (cj (uo wd (xl (pv 0) af) (pv 1)) (ac (qs 2 S (xl (pv 0) af)) (ac (qs 3 S af) (ac (cj (uo wd (pv 2) (ql z.len (a1 (xl (pv 0) af)))) (ag (qs 3 S (xl (xl (pv 0) af) (pv 2)))) (ag (cj (uo zb (ql z.len (a1 (xl (pv 0) af))) af) (ag (qs 3 S (ay eh (xl (xl (pv 0) af) (ay eh (ay cK (ay fG (pv 2) af) af) (ql z.len (a1 (xl (pv 0) af))))) (ay cK (ay y9 af af) (pv 2))))) aY))) (ac (iC (ay cK (pv 2) af) (nY (pv 0) af iz)) (ag (iC (qf hr (D_law_spread base) (a2 (pv 3) (pv 2))) (nY (pv 0) af iz))))))) aY) (ac (qs 4 S (ay eh (xl (pv 0) af) (pv 1))) (ac (iC (ay we (xl (pv 0) af) (pv 1)) (nY (pv 0) af iz)) (ag (ax (pv 4))))))) (by walk_at "b")
theorem qR(D_law_take:fM P w K mg):iR P w K mg:=fun base=>dG X G T.f_law_names (fun S _ _ _ _ _ _ _ _ _ hr hu h=>bK (yQ h) (ac (qs 2 S aN) (ac (qs 3 S (hZ kI qb qa mO aN (a1 (qc (gD rfl z.range (a1 af)) (bG (by decide)) fun _ _ _ _ _ _=>⟨gc 0,b_,xs' (pv 1) (qf hr (D_law_take base) (a2 (pv 2) af))⟩)))) (ac (qs 4 S (qf hr (D_law_take base) (a2 (pv 0) af))) (ac (qs 5 S (qf hr (D_law_take base) (a2 (pv 0) af))) (ac (qs 6 S (qf hr (D_law_take base) (a2 (pv 0) af))) (ac (qs 7 S (bH gk)) (ac (cv cc rfl (gD rfl z.range (a1 (pv 1))) (gn 8 S) (ac (qs 9 S (xs' (pv 2) (ay eh (ay cK (pv 5) (ay fG af (pv 8))) af))) (ac (qs 10 S (ca uG (pv 3) dJ (b9 (ay eh (ay cK (pv 6) (ay fG (pv 8) (ay eh (pv 4) af))) af)))) (ac (qs 11 S (xl (bH (a3 af (ql z.len (a1 (pv 10))) (ay we (ql z.len (a1 (pv 10))) af))) (pv 4))) (ag (cq (hZ kH mZ mY fo (pv 7) (a1 (ay bw (ay bw (ca uG (pv 10) dJ (b9 (pv 11))) (pv 9)) (ca uG (pv 10) (b9 (pv 11)) dJ)))))))))) (ag (ax (pv 7))))))))))) (by walk_at "b")
theorem uv:lN P w K mg:=fun base=>dG X G T.f_law_put (fun S _ _ _ _ _ _ _ _ _ hr hu h=>bK (BZ h) (ag (cj (tci (pS hu) (pv 1) (pv 0)) (ag (cq (hZ kH mZ mY fo (pv 0) (a1 (pv 1))))) aY))) (by walk_at "b")
theorem j4(D_law_take:fM P w K mg)(D_law_put:lN P w K mg):eA P w K mg:=fun base=>dG X G T.f_law_draw_doors (fun S _ _ _ _ _ _ _ _ _ hr hu h=>bK (o7 h) (ac (qs 5 S (bH gk)) (ac (qs 6 S (qf hr (D_law_take base) (a2 (pv 0) af))) (ac (cv cc rfl (i4 rfl z.enumerate (a1 (pv 3))) (eW rfl (aB (gn 7 S) (aB (gn 8 S) cY))) (ac (cv cc rfl (gD rfl z.range (a1 (xl (bH (bI af (a3 af af af))) (qf hr (D_law_take base) (a2 (pv 0) af))))) (gn 9 S) (ac (qs 10 S (cw (a2 aN (xl (pv 2) (qf hr (D_law_take base) (a2 (pv 0) (ql z.len (a1 (pv 2))))))))) (ag (cq (qf hr (D_law_put base) (a2 (pv 5) (cw (a3 (pv 8) (pv 10) (xl (pv 3) (qf hr (D_law_take base) (a2 (pv 0) (ql z.len (a1 (pv 3)))))))))))))) (ac (cv cc rfl (bA (pv 1)) (gn 11 S) (ag (cv cc rfl (gD rfl z.range (a1 (xl (bH (bI (pv 4) (a3 af af af))) (qf hr (D_law_take base) (a2 (pv 0) af))))) (gn 9 S) (ag (cq (qf hr (D_law_put base) (a2 (pv 5) (cw (a3 (pv 8) (cw (a2 aN (pv 11))) (xl (pv 3) (qf hr (D_law_take base) (a2 (pv 0) (ql z.len (a1 (pv 3))))))))))))))) (ac (qs 12 S (xl (bH (a2 (ca dI (pv 3) (b9 (ay cK (pv 7) af)) dJ) (ca dI (pv 3) dJ (b9 (pv 7))))) (pv 6))) (ag (cj (PW.pt (uQ (uo (Cb hu) (pv 12) (bH gk)) (rh (uo ki (qf hr (D_law_take base) (a2 (pv 0) af)) af)))) (ag (cq (qf hr (D_law_put base) (a2 (pv 5) (cw (a3 (pv 8) (cw (a1 aN)) (xq (pv 12) (qf hr (D_law_take base) (a2 (pv 0) (ql z.len (a1 (pv 12)))))))))))) aY)))))) (ag (ax (pv 5))))))) (by walk_at "b")
theorem qS(D_law_anew:jW P w K mg)(D_law_take:fM P w K mg)(D_law_names:iR P w K mg)(D_law_draw_doors:eA P w K mg):mn P w K mg:=fun base=>dG X G T.f_law_model (fun S _ _ _ _ _ _ _ _ _ hr hu h=>bK (xy h) (ac (cq (qf hr (D_law_anew base) (a1 (pv 0)))) (ac (qs 3 S (qf hr (D_law_names base) (a2 (pv 0) af))) (ac (qs 4 S (ca dI (pv 3) dJ (b9 (ay cK af (xl (bH (bI af (bI af (bI af (a3 af af af))))) (qf hr (D_law_take base) (a2 (pv 0) af))))))) (ac (qs 5 S (ca dI (pv 3) (b9 af) (b9 (ay cK af (xl (bH (bI af (bI af (bI af (a3 af af af))))) (qf hr (D_law_take base) (a2 (pv 0) af))))))) (ac (qs 6 S (qf hr (D_law_names base) (a2 (pv 0) (ay cK af (qf hr (D_law_take base) (a2 (pv 0) (pv 1))))))) (ac (qs 7 S (qf hr (D_law_draw_doors base) (bI (pv 0) (bI (pv 4) (a3 (pv 5) (pv 6) (pv 2)))))) (ag (ax (cw (bI (pv 4) (a3 (pv 5) (pv 6) (pv 7))))))))))))) (by walk_at "b")
theorem uw:lO P w K mg:=fun base=>dG X G T.f_is_name (fun S _ _ _ _ _ _ _ _ _ hr hu h=>bK (uN h) (ag (ax (iD (Aa y_ (pv 0) aN) (iD (Aa C8 (ql z.len (a1 (pv 0))) (gE rfl c.LONGEST_NAME)) (lm (qB (iJ rfl) z.all boot_all (a1 (qc (B4 (pv 0)) (bG (by decide)) fun _ _ _ _ _ _=>⟨gc 0,b_,eci uV (pv 0) (gE rfl c.LETTERS)⟩))))))))) (by walk_at "b")
theorem uA:gL P w K mg:=fun base=>dG X G T.f_as_keys (fun S _ _ _ _ _ _ _ _ _ hr hu h=>bK (uO h) (ac (qs 1 S n6) (ac (cv cc rfl (bA (pv 0)) (gn 2 S) (ag (kg hu (pv 1) (pv 2) h9 rfl))) (ag (ax (pv 1)))))) (by walk_at "b")
theorem jb(D_is_name:lO P w K mg)(D_as_keys:gL P w K mg):dA P w K mg:=fun base=>dG X G T.f_first_wrong_name (fun S _ _ _ _ _ _ _ _ _ hr hu h=>bK (jd h) (ac (cj (uo ki (ql z.len (a1 (pv 0))) af) (ag (ax af)) aY) (ac (qs 3 S (qf hr (D_as_keys base) (a1 (pv 2)))) (ac (cv cc rfl (i4 rfl z.enumerate (a1 (pv 0))) (eW rfl (aB (gn 4 S) (aB (gn 5 S) cY))) (ac (cj (PW.pt (pN (uo ki (pv 4) (pv 1)) (pN (gX (uU hu (pv 5) (pv 3))) (rg (jG (eg (qf hr (D_is_name base) (a1 (pv 5))))))))) (ag (ax (pv 4))) aY) (ag (kg hu (pv 3) (pv 5) h9 rfl)))) (ag (ax n5)))))) (by walk_at "b")
theorem o0:hU P w K mg:=fun base=>dG X G T.f_door_signs (fun S _ _ _ _ _ _ _ _ _ hr hu h=>bK (o8 c.still h) (ag (ax (ay gZ (ay gZ (qc (bA (pv 0)) (bG (by decide)) fun _ _ _ _ _ _=>⟨gc 0,b_,cw (a2 aN (pv 0))⟩) (qc (bA (pv 1)) (bG (by decide)) fun _ _ _ _ _ _=>⟨gc 0,b_,cw (a2 aN (pv 0))⟩)) (bH (a1 (gE rfl c.STILL))))))) (by walk_at "b")
theorem jc(D_as_keys:gL P w K mg):dB P w K mg:=fun base=>dG X G T.f_first_wrong_door (fun S _ _ _ _ _ _ _ _ _ hr hu h=>bK (je h) (ac (qs 3 S (qf hr (D_as_keys base) (a1 (pv 1)))) (ac (qs 4 S tw) (ac (cv cc rfl (i4 rfl z.enumerate (a1 (pv 0))) (eW rfl (aB (gn 5 S) (aB (gn 6 S) cY))) (ac (cj (PW.pt (pN (uo ki (pv 5) (gE rfl c.MOST_DOORS)) (rg (gX (uU hu (pv 6) (pv 4)))))) (ag (ax (pv 5))) aY) (ac (cj (PW.pt (pN (gX (lp hu (xq (pv 6) af) (pv 3))) (pN (tci (pS hu) (xq (pv 6) af) (pv 2)) (rg (gX (lp hu (xq (pv 6) af) (pv 3))))))) (ag (ax (pv 5))) aY) (ag (kg hu (pv 4) (pv 6) h9 rfl))))) (ag (ax n5)))))) (by walk_at "b")
theorem fA:bW P w K mg:=fun base=>dG X G T.f_goals_by_start_and_sign (fun S _ _ _ _ _ _ _ _ _ hr hu h=>bK (fF h) (ac (qs 1 S tw) (ac (cv cc rfl (bA (pv 0)) (eW rfl (aB (gn 2 S) (aB (gn 3 S) (aB (gn 4 S) cY)))) (ag (cq (hZ kH mZ mY fo (hZ PySem.F.plainAttrs_dict PySem.F.slot_dict_setdefault PySem.F.type_dict_setdefault (xH hu) (pv 1) (a2 (cw (a2 (pv 2) (pv 3))) (bH gk))) (a1 (pv 4)))))) (ag (ax (pv 1)))))) (by walk_at "b")
theorem my:fL P w K mg:=fun base=>dG X G T.f_led_by_still (fun S _ _ _ _ _ _ _ _ _ hr hu h=>bK (mz c.still h) (ac (qs 2 S n6) (ac (qs 3 S (bH (a1 (pv 1)))) (ac (yZ cc (uo zb (ql z.len (a1 (pv 3))) af) (ac (qs 4 S (Ca kH PySem.F.slot_list_pop PySem.F.type_list_pop Cc (pv 3))) (ag (cv cc rfl (B5 (y4 hu (pv 0) (cw (a2 (pv 4) (gE rfl c.STILL))) (cw gk) ⟨rfl,rfl,rfl,rfl⟩)) (gn 5 S) (ag (cj (gX (lp hu (pv 5) (pv 2))) (ac (kg hu (pv 2) (pv 5) h9 rfl) (ag (cq (hZ kH mZ mY fo (pv 3) (a1 (pv 5)))))) aY)))))) (ag (ax (pv 2))))))) (by walk_at "b")
theorem jD:dS P w K mg:=fun base=>dG X G T.f_first_led_round (fun S _ _ _ _ _ _ _ _ _ hr hu h=>bK (jE h) (ac (cv cc rfl (i4 rfl z.enumerate (a1 (pv 0))) (eW rfl (aB (gn 2 S) (aB (gn 3 S) cY))) (ag (cj (gX (uU hu (pv 3) (rp hu (pv 1) (pv 3) (fun _ _=>rfl)))) (ag (ax (pv 2))) aY))) (ag (ax n5)))) (by walk_at "b")
theorem qQ:gd P w K mg:=fun base=>dG X G T.f_need_none (fun S _ _ _ _ _ _ _ _ _ hr hu h=>bK (rf (K:=K) h) (ag (cj (gX (AM (pv 1))) (ag (nW)) aY))) (by walk_at "b")
theorem oY(D_first_wrong_name:dA P w K mg)(D_door_signs:hU P w K mg)(D_first_wrong_door:dB P w K mg)(D_need_none:gd P w K mg):hE P w K mg:=fun base=>dG X G T.f_need_parts (fun S _ _ _ _ _ _ _ _ _ hr hu h=>bK (o6 (K:=K) h) (ac (cq (qf hr (D_need_none base) (a2 aN (qf hr (D_first_wrong_name base) (a3 (pv 0) (gE rfl c.MOST_WORDS) (bH gk)))))) (ac (cq (qf hr (D_need_none base) (a2 aN (qf hr (D_first_wrong_name base) (a3 (pv 1) (gE rfl c.MOST_WORDS) (pv 0)))))) (ac (cq (qf hr (D_need_none base) (a2 aN (qf hr (D_first_wrong_name base) (a3 (pv 2) (gE rfl c.MOST_ROOMS) (bH gk)))))) (ag (cq (qf hr (D_need_none base) (a2 aN (qf hr (D_first_wrong_door base) (a3 (pv 3) (pv 2) (qf hr (D_door_signs base) (a2 (pv 0) (pv 1))))))))))))) (by walk_at "b")
theorem j6:eC P w K mg:=fun base=>dG X G T.f_doors_by_start (fun S _ _ _ _ _ _ _ _ _ hr hu h=>bK (kf h) (ac (qs 2 S n6) (ac (cv cc rfl (bA (pv 0)) (gn 3 S) (ag (kg hu (pv 2) (pv 3) (bH gk) rfl))) (ac (cv cc rfl (bA (pv 1)) (gn 4 S) (ag (cq (hZ kH mZ mY fo (rp hu (pv 2) (xq (pv 4) af) (fun _ _=>rfl)) (a1 (pv 4)))))) (ag (ax (pv 2))))))) (by walk_at "b")
theorem j5:eB P w K mg:=fun base=>dG X G T.f_has_asks_alone (fun S _ _ _ _ _ _ _ _ _ hr hu h=>bK (ke h) (ag (ax (qB (iJ rfl) z.all boot_all (a1 (qc (bA (pv 0)) (bG (by decide)) fun _ _ _ _ _ _=>⟨gc 0,b_,Aa ki (xq (xq (pv 0) af) af) aN⟩)))))) (by walk_at "b")
theorem uB(D_as_keys:gL P w K mg)(D_goals_by_start_and_sign:bW P w K mg)(D_led_by_still:fL P w K mg)(D_first_led_round:dS P w K mg)(D_need_none:gd P w K mg)(D_need_parts:hE P w K mg)(D_doors_by_start:eC P w K mg)(D_has_asks_alone:eB P w K mg):i8 P w K mg C:=fun base=>dN c.cm c.makes c.kc T.f_Machine___init__ (fun S _ _ _ _ _ _ _ _ _ hr hu h=>bK (Av c.mc h) (ac (cq (qf hr (D_need_parts base) (bI (pv 1) (a3 (pv 2) (pv 3) (pv 4))))) (ac (iB (pv 0) (qL rfl z.list (a1 (pv 1))) rfl) (ac (iB (pv 0) (qL rfl z.list (a1 (pv 2))) rfl) (ac (iB (pv 0) (qL rfl z.list (a1 (pv 3))) rfl) (ac (iB (pv 0) (qL rfl z.list (a1 (pv 4))) rfl) (ac (iB (pv 0) (qf hr (D_doors_by_start base) (a2 (pv 3) (pv 4))) rfl) (ac (iB (pv 0) (qf hr (D_as_keys base) (a1 (qc (bA (pv 3)) (bG (by decide)) fun _ _ _ _ _ _=>⟨gc 0,AF (eg (qf hr (D_has_asks_alone base) (a1 (rp hu (jI (pv 1) rfl) (pv 0) (fun _ _=>rfl))))),pv 0⟩))) rfl) (ac (iB (pv 0) (qf hr (D_goals_by_start_and_sign base) (a1 (pv 4))) rfl) (ac (iB (pv 0) (ln (r9 rfl) rfl z.dict vn (a1 (qc (bA (pv 3)) (bG (by decide)) fun _ _ _ _ _ _=>⟨gc 0,b_,cw (a2 (pv 0) (qf hr (D_led_by_still base) (a2 (jI (pv 1) rfl) (pv 0))))⟩))) rfl) (ag (cq (qf hr (D_need_none base) (a2 aN (qf hr (D_first_led_round base) (a2 (pv 3) (jI (pv 0) rfl))))))))))))))))) (by walk_at "b")
theorem nO(D_Machine:i8 P w K mg C):jp P w K mg C:=fun base=>dG X G T.f_law_machine (fun S _ _ _ _ _ _ _ _ _ hr hu h=>bK (uM h) (ag (ax (y1 (D_Machine base) (hr.mono (by decide)) rfl (bI (qL rfl z.list (a1 (xq (pv 0) af))) (a3 (qL rfl z.list (a1 (xq (pv 0) af))) (qL rfl z.list (a1 (xq (pv 0) af))) (qL rfl z.list (a1 (xq (pv 0) af))))))))) (by walk_at "b")
theorem mx:dW P w K mg C:=fun base=>dM c.mc.cls T.f_Machine_asks (fun S _ _ _ _ _ _ _ _ _ hr hu h=>bK (Aw c.mc h) (ag (ax (qL rfl z.list (a1 (jI (pv 0) rfl)))))) (by walk_at "b")
theorem mw:dU P w K mg C:=fun base=>dM c.mc.cls T.f_Machine_says (fun S _ _ _ _ _ _ _ _ _ hr hu h=>bK (As c.mc h) (ag (ax (qL rfl z.list (a1 (jI (pv 0) rfl)))))) (by walk_at "b")
theorem lb:dh P w K mg C:=fun base=>dM c.mc.cls T.f_Machine_rooms (fun S _ _ _ _ _ _ _ _ _ hr hu h=>bK (yP c.mc h) (ag (ax (qL rfl z.list (a1 (jI (pv 0) rfl)))))) (by walk_at "b")
theorem lf:dj P w K mg C:=fun base=>dM c.mc.cls T.f_Machine_doors (fun S _ _ _ _ _ _ _ _ _ hr hu h=>bK (yT c.mc h) (ag (ax (qL rfl z.list (a1 (jI (pv 0) rfl)))))) (by walk_at "b")
theorem nL:gr P w K mg:=fun base=>dG X G T.f_row_of_door (fun S _ _ _ _ _ _ _ _ _ hr hu h=>bK (BY h) (ac (iC (pv 0) (eW rfl (aB (gn 1 S) (aB (gn 2 S) (aB (gn 3 S) cY))))) (ag (ax (hZ kI qb qa mO aN (a1 (ay gZ (ay gZ (bH (a1 (pv 1))) (qL rfl z.list (a1 (pv 2)))) (bH (a1 (pv 3)))))))))) (by walk_at "b")
theorem yD(M_Machine_asks:dW P w K mg C)(M_Machine_says:dU P w K mg C)(M_Machine_rooms:dh P w K mg C)(M_Machine_doors:dj P w K mg C)(D_row_of_door:gr P w K mg):wV P w K mg C:=fun base=>dG X G T.f_shown (fun S _ _ _ _ _ _ _ _ _ hr hu h=>bK (yN h) (ac (qs 1 S (bH (a3 (ay gZ (bH (a1 aN)) (Bq hr (M_Machine_asks base) (pv 0))) (ay gZ (bH (a1 aN)) (Bq hr (M_Machine_says base) (pv 0))) (ay gZ (bH (a1 aN)) (Bq hr (M_Machine_rooms base) (pv 0)))))) (ac (qs 2 S (ay gZ (qc (bA (pv 1)) (bG (by decide)) fun _ _ _ _ _ _=>⟨gc 0,b_,hZ kI qb qa mO aN (a1 (pv 0))⟩) (qc (bA (Bq hr (M_Machine_doors base) (pv 0))) (bG (by decide)) fun _ _ _ _ _ _=>⟨gc 0,b_,qf hr (D_row_of_door base) (a1 (pv 0))⟩))) (ag (ax (hZ kI qb qa mO aN (a1 (qc (bA (pv 2)) (bG (by decide)) fun _ _ _ _ _ _=>⟨gc 0,b_,ay bw (pv 0) aN⟩)))))))) (by walk_at "b")
theorem sV:oP P w K mg:=fun base=>by
  have E0:ic P w K mg base "_law_same" ["found","due"] 0 C0:=by
   obtain⟨f,a,t⟩:=T.f_law_same;obtain⟨fd,F⟩:=t.fun_;exact⟨f,fd,C_,dq X G a,F.kp,F.binds (ps:=["found","due"]) (by walk_at "b")⟩
  have st:∀(j:Nat) (sp:Sp),j<=8->(∀m,j=m+1->sp=(dH K m))->ic P w K mg base "_law_same" ["found","due"] j sp->ic P w K mg base "_law_same" ["found","due"] (j+1) (dH K j):=fun j sp hj hsp Ds=>dG X G T.f_law_same (fun S _ _ _ _ _ _ _ _ _ hr hu h=>bK (yO hsp h) (ac (cj (gX (uT (pv 1))) (ag (ax (B_ (uT (pv 0))))) aY) (ac (cj (eg (qB cV z.isinstance cW (a2 (pv 1) (jH rfl z.bool)))) (ag (ax (iD (qB cV z.isinstance cW (a2 (pv 0) (jH rfl z.bool))) (lm (Aa (uW hu) (pv 0) (pv 1)))))) aY) (ac (cj (eg (qB cV z.isinstance cW (a2 (pv 1) (pO rfl z.str)))) (ag (ax (iD (qB cV z.isinstance cW (a2 (pv 0) (pO rfl z.str))) (lm (Aa (uW hu) (pv 0) (pv 1)))))) aY) (ac (cj (eg (qB cV z.isinstance cW (a2 (pv 1) (pP rfl z.int)))) (ag (ax (iD (qB cV z.isinstance cW (a2 (pv 0) (pP rfl z.int))) (iD (B9 (qB cV z.isinstance cW (a2 (pv 0) (jH rfl z.bool)))) (lm (Aa (uW hu) (pv 0) (pv 1))))))) aY) (ac (cj (PW.pt (uQ (eg (qB cV z.isinstance cW (a2 (pv 1) (l9 rfl z.tuple)))) (rh (jG (eg (qB cV z.isinstance cW (a2 (pv 0) (l9 rfl z.tuple)))))))) (ag (ax h9)) aY) (ac (cj (PW.pt (uQ (eg (qB cV z.isinstance cW (a2 (pv 1) (nZ rfl z.list)))) (rh (jG (eg (qB cV z.isinstance cW (a2 (pv 0) (nZ rfl z.list)))))))) (ag (ax h9)) aY) (ac (cj (uo y_ (ql z.len (a1 (pv 0))) (ql z.len (a1 (pv 1)))) (ag (ax h9)) aY) (ag (ax (qB (iJ rfl) z.all boot_all (a1 (qc (AG rfl z.zip (a2 (pv 0) (pv 1))) (AN (pR (bG (by decide)) lr (pR (bG (by decide)) lr (y8) (pT)) (uX lr (pT)))) fun _ _ _ _ _ _=>⟨eW rfl (aB (gc 0) (aB (gc 1) cY)),b_,Bt Ds hr rfl (a2 (pv 0) (pv 1))⟩))))))))))))) (by walk_at "b");have E1:=st 0 _ (by decide) (fun m e=>by cases e) E0;have E2:=st 1 _ (by decide) (fun m e=>by cases e;rfl) E1;have E3:=st 2 _ (by decide) (fun m e=>by cases e;rfl) E2;have E4:=st 3 _ (by decide) (fun m e=>by cases e;rfl) E3;have E5:=st 4 _ (by decide) (fun m e=>by cases e;rfl) E4;exact E5
theorem nN:jo P w K mg:=fun base=>dG X G T.f_law_text_of (fun S _ _ _ _ _ _ _ _ _ hr hu h=>bK (uL h) (ac (iC (pv 0) (eW rfl (aB (gn 1 S) (aB (gn 2 S) (aB (gn 3 S) (aB (gn 4 S) cY)))))) (ac (qs 5 S aN) (ac (cv cc rfl (bA (bH (a3 (cw (a2 aN (pv 1))) (cw (a2 aN (pv 2))) (cw (a2 aN (pv 3)))))) (eW rfl (aB (gn 6 S) (aB (gn 7 S) cY))) (ac (qs 5 S (ay bw (pv 5) (pv 6))) (ac (cv cc rfl (bA (pv 7)) (gn 8 S) (ag (qs 5 S (ay bw (ay bw (pv 5) aN) (pv 8))))) (ag (qs 5 S (ay bw (pv 5) aN)))))) (ac (cv cc rfl (bA (pv 4)) (eW rfl (aB (gn 9 S) (aB (gn 10 S) (aB (gn 11 S) cY)))) (ac (qs 5 S (ay bw (pv 5) (pv 9))) (ac (cv cc rfl (B3 (pv 10)) (gn 12 S) (ag (qs 5 S (ay bw (ay bw (pv 5) aN) (pv 12))))) (ag (qs 5 S (ay bw (ay bw (ay bw (pv 5) aN) (pv 11)) aN)))))) (ag (ax (pv 5)))))))) (by walk_at "b")
theorem ux:lP P w K mg:=fun base=>dG X G T.f_is_head (fun S _ _ _ _ _ _ _ _ _ hr hu h=>bK (xz h) (ag (ax (iD (Aa zb (ql z.len (a1 (pv 0))) af) (lm (Aa ki (xl (pv 0) af) (pv 1))))))) (by walk_at "b")
theorem uy:lQ P w K mg:=fun base=>dG X G T.f_is_door (fun S _ _ _ _ _ _ _ _ _ hr hu h=>bK (xA h) (ac (cj (uo ki (ql z.len (a1 (pv 0))) af) (ag (ax (Aa ki (xl (pv 0) af) aN))) aY) (ag (ax (iD (Aa ki (ql z.len (a1 (pv 0))) af) (lm (eci (za hu) (xl (pv 0) af) (cw (a2 aN aN))))))))) (by walk_at "b")
theorem xv(D_is_head:lP P w K mg)(D_is_door:lQ P w K mg):oR P w K mg:=fun base=>dG X G T.f_is_row (fun S _ _ _ _ _ _ _ _ _ hr hu h=>bK (yS c.heads h) (ac (cj (tci (za hu) aN (pv 0)) (ag (ax h9)) aY) (ag (ax (y3 (uo wd (pv 1) (ql z.len (a1 (gE rfl c.HEADS)))) (qf hr (D_is_head base) (a2 (pv 0) (xt (gE rfl c.HEADS) (pv 1)))) (qf hr (D_is_door base) (a1 (pv 0)))))))) (by walk_at "b")
theorem qP(D_is_row:oR P w K mg):iQ P w K mg:=fun base=>dG X G T.f_need_rows (fun S _ _ _ _ _ _ _ _ _ hr hu h=>bK (tp c.heads h) (ac (cv cc rfl (i4 rfl z.enumerate (a1 (pv 0))) (eW rfl (aB (gn 2 S) (aB (gn 3 S) cY))) (ag (cj (jG (eg (qf hr (D_is_row base) (a2 (pv 3) (pv 2))))) (ag (nW)) aY))) (ag (cj (PW.pt (pN (uo y_ (pv 1) aN) (rg (uo wd (ql z.len (a1 (pv 0))) (ql z.len (a1 (gE rfl c.HEADS))))))) (ag (nW)) aY)))) (by walk_at "b")
theorem uz:lR P w K mg:=fun base=>dG X G T.f_door_of (fun S _ _ _ _ _ _ _ _ _ hr hu h=>bK (xB h) (ag (ax (cw (a3 (xl (pv 0) af) (ln pd rfl z.tuple ml (a1 (ca dI (pv 0) (b9 af) (b9 (v9 qI af))))) (xl (pv 0) (v9 qI af))))))) (by walk_at "b")
theorem Am(D_Machine:i8 P w K mg C)(D_need_rows:iQ P w K mg)(D_door_of:lR P w K mg):vC P w K mg C:=fun base=>dG X G T.f_read (fun S _ _ _ _ _ _ _ _ _ hr hu h=>bK (At c.heads h) (ac (qs 1 S (hZ kI PySem.F.slot_str_split PySem.F.type_str_split tF (pv 0) (a1 aN))) (ac (qsc 2 S (bA (ca dI (pv 1) dJ (b9 (v9 qI af)))) (bG (by decide)) fun _ _ _ _ _ _=>⟨gc 0,b_,hZ kI PySem.F.slot_str_split PySem.F.type_str_split tF (pv 0) (a1 aN)⟩) (ac (cq (qf hr (D_need_rows base) (a2 (pv 2) (xl (pv 1) (v9 qI af))))) (ac (iC (qc (bA (ca dI (pv 2) dJ (b9 (ql z.len (a1 (gE rfl c.HEADS)))))) (bG (by decide)) fun _ _ _ _ _ _=>⟨gc 0,b_,ca dI (pv 0) (b9 af) dJ⟩) (B7 rfl (aB (gn 3 S) (aB (gn 4 S) (aB (gn 5 S) cY))))) (ag (ax (y1 (D_Machine base) (hr.mono (by decide)) rfl (bI (pv 3) (a3 (pv 4) (pv 5) (qc (bA (ca dI (pv 2) (b9 (ql z.len (a1 (gE rfl c.HEADS)))) dJ)) (bG (by decide)) fun _ _ _ _ _ _=>⟨gc 0,b_,qf hr (D_door_of base) (a1 (pv 0))⟩))))))))))) (by walk_at "b")
theorem lg(M_Machine_asks:dW P w K mg C)(M_Machine_says:dU P w K mg C)(M_Machine_rooms:dh P w K mg C)(M_Machine_doors:dj P w K mg C)(D_read:vC P w K mg C):ie P w K mg:=fun base=>dG X G T.f_law_read_told (fun S _ _ _ _ _ _ _ _ _ hr hu h=>bK (tj h) (ac (qs 1 S n5) (ac (qs 2 S n5) (ac (AD (B1 (py1 (AC (qs 1 S (qf hr (D_read base) (a1 (pv 0))))))) (Br (i:=3) S rfl rfl rfl c.x_NoText.g (fun a=>ag (qs 2 S (cw (a2 aN (rm (pv 3) rfl))))) (Br (i:=3) S rfl rfl rfl c.x_NoMachine.g (fun a=>ag (qs 2 S (cw (a2 (rm (pv 3) rfl) (rm (pv 3) rfl))))) B6))) (ac (cj (gX (uT (pv 1))) (ag (ax (pv 2))) aY) (ag (ax (bH (bI (Bq hr (M_Machine_asks base) (pv 1)) (a3 (Bq hr (M_Machine_says base) (pv 1)) (Bq hr (M_Machine_rooms base) (pv 1)) (Bq hr (M_Machine_doors base) (pv 1)))))))))))) (by walk_at "b")
end
theorem Cd(X:K.In h)(G:h.Ns bh mg)(z:Zs mg)(c:Cs K mg C Cx Ct a_STILL a_HEADS C_NoText)(T:Ts K C Cx C_NoText):∃f fd,mg "law"=some (.ref f)/\(∀(s:Shared) (v:Value),mU s fd ⟨[v],[]⟩ [("script",v)])/\∀base:Heap,jg P w K mg base CX0 8 f fd ["script"] (sp_law87 K):=by
 have D_law_spread:hJ P w K mg:=oZ X G z c T;have D_law_open:oQ P w K mg:=sW X G z c T;have D_law_anew:jW P w K mg:=sX X G z c T;have D_law_take:fM P w K mg:=sU X G z c T D_law_spread;have D_law_names:iR P w K mg:=qR X G z c T D_law_take;have D_law_put:lN P w K mg:=uv X G z c T;have D_law_draw_doors:eA P w K mg:=j4 X G z c T D_law_take D_law_put;have D_law_model:mn P w K mg:=qS X G z c T D_law_anew D_law_take D_law_names D_law_draw_doors;have D_is_name:lO P w K mg:=uw X G z c T;have D_as_keys:gL P w K mg:=uA X G z c T;have D_first_wrong_name:dA P w K mg:=jb X G z c T D_is_name D_as_keys;have D_door_signs:hU P w K mg:=o0 X G z c T;have D_first_wrong_door:dB P w K mg:=jc X G z c T D_as_keys;have D_goals_by_start_and_sign:bW P w K mg:=fA X G z c T;have D_led_by_still:fL P w K mg:=my X G z c T;have D_first_led_round:dS P w K mg:=jD X G z c T;have D_need_none:gd P w K mg:=qQ X G z c T;have D_need_parts:hE P w K mg:=oY X G z c T D_first_wrong_name D_door_signs D_first_wrong_door D_need_none;have D_doors_by_start:eC P w K mg:=j6 X G z c T;have D_has_asks_alone:eB P w K mg:=j5 X G z c T;have D_Machine:i8 P w K mg C:=uB X G z c T D_as_keys D_goals_by_start_and_sign D_led_by_still D_first_led_round D_need_none D_need_parts D_doors_by_start D_has_asks_alone;have D_law_machine:jp P w K mg C:=nO X G z c T D_Machine;have M_Machine_asks:dW P w K mg C:=mx X G z c T;have M_Machine_says:dU P w K mg C:=mw X G z c T;have M_Machine_rooms:dh P w K mg C:=lb X G z c T;have M_Machine_doors:dj P w K mg C:=lf X G z c T;have D_row_of_door:gr P w K mg:=nL X G z c T;have D_shown:wV P w K mg C:=yD X G z c T M_Machine_asks M_Machine_says M_Machine_rooms M_Machine_doors D_row_of_door;have D_law_same:oP P w K mg:=sV X G z c T;have D_law_text_of:jo P w K mg:=nN X G z c T;have D_is_head:lP P w K mg:=ux X G z c T;have D_is_door:lQ P w K mg:=uy X G z c T;have D_is_row:oR P w K mg:=xv X G z c T D_is_head D_is_door;have D_need_rows:iQ P w K mg:=qP X G z c T D_is_row;have D_door_of:lR P w K mg:=uz X G z c T;have D_read:vC P w K mg C:=Am X G z c T D_Machine D_need_rows D_door_of;have D_law_read_told:ie P w K mg:=lg X G z c T M_Machine_asks M_Machine_says M_Machine_rooms M_Machine_doors D_read;obtain⟨f,a,t⟩:=T.f_law87;obtain⟨oc,od,an,sl,kV,dc,pm,cd,ct,l,c1,k1⟩:=t;have F:=zC (st:=(gM 49)) l c1 k1;have sc:hC wU y0 (bp (gM 49)):=by walk_at "s"
 have S:=sc.nd;exact⟨f,_,dq X G a,fun s v=>.of_eq rfl,fun base=>F.ok (k:=7) sc (by walk_at "l") (fun _ _ _ _ _ _ _ _ hr h=>by have hu:=ww hr;exact bK (yR (C:=C) h) (ac (qs 1 S (qf hr (D_law_open base) (a1 (pv 0)))) (ac (qsc 2 S (gD rfl z.range (a1 af)) (bG (by decide)) fun _ _ _ _ _ _=>⟨gc 0,b_,qf hr (D_law_model base) (a3 (pv 1) af (pv 0))⟩) (ac (cv cc rfl (bA (ay gZ (pv 2) (pv 2))) (gn 3 S) (ac (qs 4 S (qf hr (D_shown base) (a1 (qf hr (D_law_machine base) (a1 (pv 3)))))) (ac (cj (jG (eg (qf hr (D_law_same base) (a2 (pv 4) (qf hr (D_law_text_of base) (a1 (pv 3))))))) (ag (ax h9)) aY) (ac (cj (jG (eg (qf hr (D_law_same base) (a2 (qf hr (D_law_read_told base) (a1 (pv 4))) (qL rfl z.list (a1 (pv 3))))))) (ag (ax h9)) aY) (ag (cj (jG (eg (qf hr (D_law_same base) (a2 (qf hr (D_shown base) (a1 (qf hr (D_read base) (a1 (pv 4))))) (pv 4))))) (ag (ax h9)) aY)))))) (ag (ax h9))))))⟩
theorem all_mk{l:PySem.W.OpenLaw}{fa:Addr}{nmX qX:Str}{NX:Addr}{bsX subX:Zf}{snX:Zb}{abX:Bool}{colX:Option Bool}{ddX:Option Addr}{k0X k1X k2X k3X k5X:Option Value}{nmT qT:Str}{NT:Addr}{bsT subT:Zf}{snT:Zb}{abT:Bool}{colT:Option Bool}{ddT:Option Addr}{k0T k1T k2T k3T k5T:Option Value}{nmY0 qY0:Str}{NY0:Addr}{bsY0 subY0:Zf}{snY0:Zb}{abY0:Bool}{colY0:Option Bool}{ddY0:Option Addr}{k0Y0 k1Y0 k2Y0 k3Y0 k5Y0:Option Value}{u_LETTERS:Value}{u_LONGEST_NAME:Value}{u_MOST_WORDS:Value}{u_MOST_ROOMS:Value}{u_MOST_DOORS:Value}{o_STILL:Obj}{i_STILL:Array Value}{n_STILL:Nat}{o_HEADS:Obj}{i_HEADS:Array Value}{n_HEADS:Nat}(X:K.In h)(G:h.Ns bh mg)(hfa:mg "law"=some (.ref fa))
  (aC:bC K bh "Machine"=some (some (.ref C)))
  (pg:sH K C Str.empty=true)
  (hd:vH K C=true)
  (po:PySem.W.plainOver K C=true)
  (sa:bx K (.ref C) "__setattr__"=some (some (.builtin "object.__setattr__")))
  (mk:sD K C=true)
  (kc:e_ K (.ref C)=true)
  (na1:bx K (.ref C) "own_asks"=some none)
  (na2:bx K (.ref C) "own_says"=some none)
  (na3:bx K (.ref C) "own_rooms"=some none)
  (na4:bx K (.ref C) "own_doors"=some none)
  (na5:bx K (.ref C) "leaving"=some none)
  (na6:bx K (.ref C) "quiet"=some none)
  (na7:bx K (.ref C) "sign_goals"=some none)
  (na8:bx K (.ref C) "still_led"=some none)
  (aX:bC K bh "NoMachine"=some (some (.ref Cx)))
  (aT:bC K bh "TrialError"=some (some (.ref Ct)))
  (xo:K.lookup Cx=some (ng nmX qX Cx NX bsX (.ref Ct::iu) true snX subX abX colX ddX k0X k1X k2X k3X k5X "ValueError.__new__"))
  (xsa:bx K (.ref Cx) "__setattr__"=some (some (.builtin "object.__setattr__")))
  (xga:bx K (.ref Cx) "__getattribute__"=some (some (.builtin "BaseException.__getattribute__")))
  (xgx:bx K (.ref Cx) "__getattr__"=some none)
  (xp:bx K (.ref Cx) "part"=some none)
  (xn:bx K (.ref Cx) "number"=some none)
  (xs1:PySem.W.subIn K (.ref Cx) (.type "BaseException")=some true)
  (xs2:PySem.W.isClsIn K Cx=true)
  (xs3:PySem.W.typeIn K (.ref Cx)=some (.type "type"))
  (xs4:PySem.W.subIn K (.ref Cx) (.ref Cx)=some true)
  (xrd:PySem.W.readsIn K Ct (.type "type")=true)
  (xfi:PySem.W.findCls K (.ref Ct) (.type "type") "__init__"=some (.val (.builtin "ValueError.__init__")))
  (xgt:vG K (.ref Ct) "__getattribute__"=some (some (.builtin "type.__getattribute__")))
  (kx:e_ K (.ref Cx)=true)
  (xcl:bx K (.ref Cx) "__class__"=some (some (.builtin "object.__class__")))
  (xgn:vG K (.builtin "object.__class__") "__get__"=some (some (.builtin "getset_descriptor.__get__")))
  (xgk:PySem.W.takesIn K (.builtin "object.__class__")=some true)
  (xoT:K.lookup Ct=some (ng nmT qT Ct NT bsT iu true snT subT abT colT ddT k0T k1T k2T k3T k5T "ValueError.__new__"))
  (aXY0:bC K bh "NoText"=some (some (.ref C_NoText)))
  (xoY0:K.lookup C_NoText=some (ng nmY0 qY0 C_NoText NY0 bsY0 (.ref Ct::iu) true snY0 subY0 abY0 colY0 ddY0 k0Y0 k1Y0 k2Y0 k3Y0 k5Y0 "ValueError.__new__"))
  (xsaY0:bx K (.ref C_NoText) "__setattr__"=some (some (.builtin "object.__setattr__")))
  (xgaY0:bx K (.ref C_NoText) "__getattribute__"=some (some (.builtin "BaseException.__getattribute__")))
  (xgxY0:bx K (.ref C_NoText) "__getattr__"=some none)
  (xclY0:bx K (.ref C_NoText) "__class__"=some (some (.builtin "object.__class__")))
  (kxY0:e_ K (.ref C_NoText)=true)
  (xf0Y0:bx K (.ref C_NoText) "number"=some none)
  (nd:[Ct,Cx,C_NoText].Nodup)
  (z_all:bC K bh "all"=some none)
  (z_bool:bC K bh "bool"=some none)
  (z_dict:bC K bh "dict"=some none)
  (z_enumerate:bC K bh "enumerate"=some none)
  (z_int:bC K bh "int"=some none)
  (z_isinstance:bC K bh "isinstance"=some none)
  (z_len:bC K bh "len"=some none)
  (z_list:bC K bh "list"=some none)
  (z_range:bC K bh "range"=some none)
  (z_str:bC K bh "str"=some none)
  (z_tuple:bC K bh "tuple"=some none)
  (z_zip:bC K bh "zip"=some none)
  (g_LETTERS:bC K bh "LETTERS"=some (some u_LETTERS))
  (r_LETTERS:RelV (.str "abcdefghijklmnopqrstuvwxyz") u_LETTERS)
  (g_LONGEST_NAME:bC K bh "LONGEST_NAME"=some (some u_LONGEST_NAME))
  (r_LONGEST_NAME:RelV (.int 8) u_LONGEST_NAME)
  (g_MOST_WORDS:bC K bh "MOST_WORDS"=some (some u_MOST_WORDS))
  (r_MOST_WORDS:RelV (.int 4) u_MOST_WORDS)
  (g_MOST_ROOMS:bC K bh "MOST_ROOMS"=some (some u_MOST_ROOMS))
  (r_MOST_ROOMS:RelV (.int 150) u_MOST_ROOMS)
  (g_MOST_DOORS:bC K bh "MOST_DOORS"=some (some u_MOST_DOORS))
  (r_MOST_DOORS:RelV (.int 2000) u_MOST_DOORS)
  (g_STILL:bC K bh "STILL"=some (some (.ref a_STILL)))
  (l_STILL:K.lookup a_STILL=some o_STILL)
  (c_STILL:o_STILL.cls=.type "tuple")
  (d_STILL:o_STILL.data=.seq i_STILL n_STILL)
  (s_STILL:i_STILL.size<=aj)
  (v_STILL:aK (a_.map V.str) i_STILL.toList)
  (g_HEADS:bC K bh "HEADS"=some (some (.ref a_HEADS)))
  (l_HEADS:K.lookup a_HEADS=some o_HEADS)
  (c_HEADS:o_HEADS.cls=.type "tuple")
  (d_HEADS:o_HEADS.data=.seq i_HEADS n_HEADS)
  (s_HEADS:i_HEADS.size<=aj)
  (v_HEADS:aK (f_.map V.str) i_HEADS.toList)
  (T:Ts K C Cx C_NoText)
 :∃fd:hV,(∀(s:Shared) (v:Value),mU s fd ⟨[v],[]⟩ [("script",v)])/\∀base:Heap,K.In base->base.Ns bh mg->jg l.prog w K mg base CX0 8 fa fd ["script"] (sp_law87 K):=by
 have z:Zs mg:=⟨eQ X G z_all,eQ X G z_bool,eQ X G z_dict,eQ X G z_enumerate,eQ X G z_int,eQ X G z_isinstance,eQ X G z_len,eQ X G z_list,eQ X G z_range,eQ X G z_str,eQ X G z_tuple,eQ X G z_zip⟩;have c:Cs K mg C Cx Ct a_STILL a_HEADS C_NoText:=⟨⟨_,dq X G g_LETTERS,r_LETTERS⟩,⟨_,dq X G g_LONGEST_NAME,r_LONGEST_NAME⟩,⟨_,dq X G g_MOST_WORDS,r_MOST_WORDS⟩,⟨_,dq X G g_MOST_ROOMS,r_MOST_ROOMS⟩,⟨_,dq X G g_MOST_DOORS,r_MOST_DOORS⟩,⟨_,dq X G g_STILL,rfl⟩,⟨_,dq X G g_HEADS,rfl⟩,vT l_STILL c_STILL d_STILL s_STILL v_STILL,vT l_HEADS c_HEADS d_HEADS s_HEADS v_HEADS,⟨⟨pg,hd,po,sa⟩,na1,na2,na3,na4,na5,na6,na7,na8⟩,dq X G aC,mk,kc,⟨⟨⟨_,_,_,_,_,_,_,_,_,_,_,_,_,_,_,xo,.own .base⟩,xsa,xga,xgx⟩,xp,xn,Cj xs1 xs2 xs3 xs4⟩,⟨xrd,xfi,xgt⟩,dq X G aX,dq X G aT,kx,⟨⟨_,_,_,_,_,_,_,_,_,_,_,_,_,_,xoT⟩⟩,⟨xgn,xgk⟩,⟨dq X G aX,⟨⟨_,_,_,_,_,_,_,_,_,_,_,_,_,_,xo⟩⟩,xsa,xga,xgx,kx,xcl⟩,nd,⟨dq X G aXY0,⟨⟨_,_,_,_,_,_,_,_,_,_,_,_,_,_,xoY0⟩⟩,xsaY0,xgaY0,xgxY0,kxY0,xclY0⟩,xf0Y0⟩;obtain⟨f,fd,e,b,k⟩:=Cd (P:=l.prog) (w:=w) X G z c T;have e0:=hfa.symm.trans e;cases e0;exact⟨fd,b,fun base _ _=>k base⟩
end
end Mum
namespace PySem.W.Fast
def tw17289236495234580441:=0
def tw9737858451761084785:=0
def tw9841178589546569724:=0
def tw11748286215875624844:=0
def tw15954187146517271617:=0
def tw13759733731971686357:=0
def tw6240746550088573301:=0
def tw1995846865223803963:=0
def tw10339516489636919502:=0
def tw18304112877593148390:=0
def tw2690145809921534421:=0
def tw17208776638773628300:=0
def tw15165997334817723131:=0
def tw4277078888963807509:=0
def tw14408389380388237062:=0
def tw1461324513438937353:=0
def tw2898554649868488941:=0
def tw13353359881882204614:=0
def tw11073581548049508647:=0
def tw11049620997958392858:=0
def tw14281309526787506194:=0
def tw9748181423136277869:=0
def tw9560006227225773843:=0
def tw14771105025295672264:=0
def tw17862098505725177995:=0
def tw16466705975969360803:=0
def tw15264866242083003484:=0
def tw17272072092182565795:=0
def tw8136186982119787349:=0
def tw7708289521087228902:=0
def tw8499499846590743580:=0
def tw15660514808247379345:=0
def tw186309755548698760:=0
def tw11455387028718841666:=0
def tw5004928958879225890:=0
def tw13920998457797905725:=0
def tw676459828009324572:=0
def tw14693820895802131731:=0
def tw11360882473048719282:=0
def tw6887735017975453060:=0
def tw6865763415381512228:=0
def tw7087178881412978232:=0
def tw4472065187883529780:=0
def tw8940267902638467525:=0
def tw11445997323799059218:=0
def tw3178911851361806444:=0
def tw3027989617345012988:=0
def tw1450702126785689439:=0
def tw7120389171177233462:=0
def tw16199844349723612713:=0
def tw1966948221147058736:=0
def tw15111204760848298665:=0
def tw1653996142667956:=0
def tw12849522329971918298:=0
def tw5789250476242401863:=0
def tw10225220242480816053:=0
def tw18179476811302107086:=0
def tw6582552013248080222:=0
def tw3920851232579687766:=0
def tw13180218936906558601:=0
def tw5636623169718670885:=0
def tw8304224553994310599:=0
def tw17885289026103716596:=0
def tw12311185769952313128:=0
def tw12782110160010989276:=0
def tw2441689320340578248:=0
def tw16901126692377680646:=0
def tw12567627323694393363:=0
def tw5303818135808076148:=0
def tw5655202398893221357:=0
def tw7049994793666516977:=0
def tw432229959378444441:=0
def tw13695370764199485916:=0
def tw6779537561516392566:=0
def tw18367322131081131901:=0
def tw9146054969516957494:=0
def tw11490514083624671278:=0
def tw4358144881911126485:=0
def tw9408300628564015605:=0
def tw15758720251687997796:=0
def tw7067963298612997794:=0
def tw9879909003590536781:=0
def tw9594159166482539987:=0
def tw17539333113527412938:=0
def tw9972748432310613552:=0
def tw7688125628577500786:=0
def tw1699996683578894405:=0
def tw1697159059416260554:=0
def tw5333029765009860824:=0
def tw18369959515691743406:=0
def tw6577375143751163388:=0
def tw1929160689623939736:=0
def tw18368505988959418344:=0
def tw4429830143136994548:=0
def tw4689974650297396785:=0
def tw13952112220008944322:=0
def tw12038187011158942629:=0
def tw13076712101075170045:=0
def tw18112720609842729564:=0
def tw8426834186233991384:=0
def tw15244955737074070507:=0
def tw7022931799776581595:=0
def tw17073811674117628577:=0
def tw11165660715066495397:=0
def tw2897504632313592792:=0
def tw17969097687550972989:=0
def tw6371795766980879322:=0
def tw17002591233252853910:=0
def tw17765197343810930527:=0
def tw8161202070171517341:=0
def tw9761043499556393096:=0
def tw2837631004377221369:=0
def tw7820203146964113708:=0
def tw7160484084266738678:=0
def tw7176689672011372910:=0
def tw5800319121458551022:=0
def tw1090308738210277067:=0
def tw4506445952433815666:=0
def tw16808711117088395986:=0
def tw6737550012431878283:=0
def tw2947688038887023746:=0
def tw14090648023614677031:=0
def tw17239379117951465339:=0
def tw18251021173507552253:=0
def tw10711834976447347064:=0
def tw8952745344084540526:=0
def tw5942703089746074062:=0
def tw14650958192616492687:=0
def tw3636721015908265717:=0
def tw14849525211677427202:=0
def tw12418906534706253235:=0
def tw11135340174811988157:=0
def tw13563575650409624138:=0
def tw5973747141078204353:=0
def tw12866417535245950743:=0
def tw6847798997665290692:=0
def tw8590713482047845199:=0
def tw10493914551839792811:=0
def tw12128213061105970142:=0
def tw12731782324176073148:=0
def tw7651852382437693511:=0
def tw16313183591914233437:=0
def tw16579842080315093889:=0
def tw17162779672809651419:=0
def tw3970174141782531048:=0
def tw685095732935893187:=0
def tw17489534093177735892:=0
def tw12465920080815823170:=0
def tw12984061349852592042:=0
def tw2075958301282720652:=0
def tw10255478486587708339:=0
def tw11325726683951495297:=0
def tw10762000219569789729:=0
def tw9942641070972355120:=0
def tw15966793904891172857:=0
def tw17748664088724748314:=0
def tw12812830011655161722:=0
def tw8596792619686518930:=0
def tw8011832755737758204:=0
def tw9543133040966392132:=0
def tw6852538887753281213:=0
def tw3996374286886046695:=0
def tw17737561220208775489:=0
def tw8513414739640371587:=0
def tw16627261724097758161:=0
def tw9134283831553405443:=0
def tw15250014108460495541:=0
def tw9567212703119622700:=0
def tw17415623300979336610:=0
def tw849037950127966164:=0
def tw3330571930041644445:=0
def tw14846350099642010741:=0
def tw13558320605067244488:=0
def tw7483468032501472606:=0
def tw2593933830303946635:=0
def tw16248575576500647879:=0
def tw1571434442618591653:=0
def tw1700216873838877890:=0
def tw3428204595318675800:=0
def tw17715537136817328619:=0
def tw4451117893362877885:=0
def tw1016276616051942189:=0
def tw7217543687955978132:=0
def tw10056637813188283742:=0
def tw16674198180170274838:=0
def tw2140605725905897358:=0
def tw8516258086124110530:=0
def tw330007723312092557:=0
def tw17109945826707270582:=0
def tw4259228948138887499:=0
def tw12054615645070115726:=0
def tw169433241773757990:=0
def tw11529586317156186411:=0
def tw18322729280737431135:=0
def tw12169584475507760137:=0
def tw16283224834253348496:=0
def tw4139745351618257446:=0
def tw5018075366812528104:=0
def tw8811653296753711723:=0
def tw4283927750553500297:=0
def tw15959274857321641783:=0
def tw16643501961573639634:=0
def tw17555173796280579113:=0
def tw3887564051719404885:=0
def tw943327024148252377:=0
def tw9051688055610748933:=0
def tw8772817484340088414:=0
def tw1910170801766583679:=0
def tw4424120415064957087:=0
def tw4424493044042493852:=0
def tw16875636838306898306:=0
def tw7940609477129731650:=0
def tw7121371226456359093:=0
def tw16480120836690255445:=0
def tw5703215048347830391:=0
def tw12308538447213531167:=0
def tw10531734827056913661:=0
def tw4356585712245400547:=0
def tw14520273343363297212:=0
def tw8746312990789396899:=0
def tw12360972551842232485:=0
def tw1435206959810593352:=0
def tw7884983415317479281:=0
def tw17991350431334622011:=0
def tw2090159988979479429:=0
def tw5968677272530933927:=0
def tw1555992879161376227:=0
def tw3079584993306042017:=0
def tw1023121653996862640:=0
def tw9782372129640953160:=0
def tw900099809317169632:=0
def tw16449044753892341910:=0
def tw13554795070788838450:=0
def tw11789874513572423938:=0
def tw10267622145070677661:=0
def tw13852984929389550591:=0
def tw7995967777887690690:=0
def tw1356967397159940420:=0
def tw16782283099648656873:=0
def tw10385036189756643700:=0
def tw12152563697110955333:=0
def tw13942211511193815643:=0
def tw11925977731477770189:=0
def tw4281238882030341607:=0
def tw6112063757862638321:=0
def tw9194729980455830368:=0
def tw16195006955707168676:=0
def tw10366174523896019229:=0
def tw6911509107251665233:=0
def tw15543781200435609013:=0
def tw6690308783389613231:=0
def tw1546062988829762:=0
def tw221244404904099749:=0
def tw1928946924318450047:=0
def tw4872636727965136186:=0
def tw6871947793412228976:=0
def tw10491171516360623141:=0
def tw12550879057305118524:=0
def tw15190719634646114787:=0
def tw5379749693051330416:=0
def tw9486732992493330044:=0
def tw613106606707750919:=0
def tw11522991487606261693:=0
def tw1390030395978886307:=0
def tw7969998642386369282:=0
def tw6764739814558152200:=0
def tw12155830417716359357:=0
def tw9287521032018364220:=0
def tw4335660605541405700:=0
def tw8420503275582635390:=0
def tw13930439641755944201:=0
def tw15538051887101847429:=0
def tw6372936410717664016:=0
def tw6572188227189593036:=0
def tw16412771755742234452:=0
def tw2031536355065958922:=0
def tw8855845374406171995:=0
def tw2666243860176835406:=0
def tw5202761906418528525:=0
def tw5340990705256304418:=0
def tw14346162718696703524:=0
def tw14114036892719135809:=0
def tw17098836122401575161:=0
def tw8876677321450434198:=0
def tw13292539157031616328:=0
def tw11158346259835176668:=0
def tw2694944836168481337:=0
def tw15505292970548368461:=0
def tw1512908542119289166:=0
def tw15185305590487081818:=0
def tw6757600069195549959:=0
def tw13276244002911933012:=0
def tw6136168690982504718:=0
def tw14189563033570461273:=0
def tw16772230531041468887:=0
def tw11968627407669357295:=0
def tw687596804979771758:=0
def tw9534609561806329629:=0
def tw1122743128414578160:=0
def tw7741944751691926583:=0
def tw1105940982536465889:=0
def tw7353822152276755802:=0
def tw3488452741985278623:=0
def tw8787113367933515283:=0
def tw12231948201365099866:=0
def tw13560092689695444641:=0
def tw87575177279918214:=0
def tw10548473890803465660:=0
def tw13481916751596983385:=0
def tw11890687891778364750:=0
def tw14349751295185018184:=0
def tw14771118588717171130:=0
def tw13144392603196424649:=0
def tw3191811563704271251:=0
def tw12428353584884841333:=0
def tw13464431352599599076:=0
def tw12117190724261267885:=0
def tw2796789261196710193:=0
def tw12027240124780155945:=0
def tw12468946706036169743:=0
def tw16210740955464588676:=0
def tw181979097083258731:=0
def tw6248598341179880545:=0
def tw7494651632874735748:=0
def tw5843057231455551666:=0
def tw7662424288698026687:=0
def tw12290693763606007217:=0
def tw7448537577778524644:=0
def tw2784643447228882730:=0
def tw7860256246486185943:=0
def tw5214469977475225959:=0
def tw5260607844956403932:=0
def tw13121599071336590570:=0
def tw8638559677157406120:=0
def tw14338600056555682064:=0
def tw3988673732476255393:=0
def tw12746632767032583358:=0
def tw10499761197116210714:=0
def tw9891428105952380775:=0
def tw3630539197709140296:=0
def tw816483290697377372:=0
end PySem.W.Fast
open PySem PySem.W PyProof.Rows
set_option maxRecDepth 100000 in
set_option maxHeartbeats 0 in
theorem PySem.Challenge.cw_mumtrial_k87_read_back_holds : PySem.Challenge.rw_mumtrial_k87_read_back.Holds := by
 w_on;o_law;k_head;(case hw=>w_witness2)
 k_fill
 refine L2.walk_ofK (l:=PySem.Challenge.rw_mumtrial_k87_read_back) (n:=63) (k:=8) (x:="script") (CX:=L2.CX0) (sp:=Mum.sp_law87) rfl (by decide) rfl ⟨rfl,by decide,by decide⟩ (fun w h Y=>PySem.W.kIn_of Y) ?F (fun _ _ a ns hl _ hS=>⟨a,ns,rfl,hS,hl,fun _=>rfl⟩) (fun _ _ _ _ z=>z)
 case F =>
  intro w mg fa h KX G hmg;refine' Mum.all_mk KX G hmg ?aC ?pg ?hd ?po ?sa ?mk ?kc ?na1 ?na2 ?na3 ?na4 ?na5 ?na6 ?na7 ?na8 ?aX ?aT ?xo ?xsa ?xga ?xgx ?xp ?xn ?xs1 ?xs2 ?xs3 ?xs4 ?xrd ?xfi ?xgt ?kx ?xcl ?xgn ?xgk ?xoT ?aXY0 ?xoY0 ?xsaY0 ?xgaY0 ?xgxY0 ?xclY0 ?kxY0 ?xf0Y0 ?nd ?z_all ?z_bool ?z_dict ?z_enumerate ?z_int ?z_isinstance ?z_len ?z_list ?z_range ?z_str ?z_tuple ?z_zip ?g_LETTERS ?r_LETTERS ?g_LONGEST_NAME ?r_LONGEST_NAME ?g_MOST_WORDS ?r_MOST_WORDS ?g_MOST_ROOMS ?r_MOST_ROOMS ?g_MOST_DOORS ?r_MOST_DOORS ?g_STILL ?l_STILL ?c_STILL ?d_STILL ?s_STILL ?v_STILL ?g_HEADS ?l_HEADS ?c_HEADS ?d_HEADS ?s_HEADS ?v_HEADS ?T
  (case aC|pg|hd|po|sa|mk|kc|na1|na2|na3|na4|na5|na6|na7|na8|aX|aT|xo|xsa|xga|xgx|xp|xn|xs1|xs2|xs3|xs4|xrd|xfi|xgt|kx|xcl|xgn|xgk|xoT|aXY0|xoY0|xsaY0|xgaY0|xgxY0|xclY0|kxY0|xf0Y0=>k_is)
  (case nd=>decide)
  (case z_all|z_bool|z_dict|z_enumerate|z_int|z_isinstance|z_len|z_list|z_range|z_str|z_tuple|z_zip|g_LETTERS=>k_is)
  (case r_LETTERS=>exact⟨_,rfl⟩)
  (case g_LONGEST_NAME=>k_is)
  (case r_LONGEST_NAME=>exact⟨_,rfl⟩)
  (case g_MOST_WORDS=>k_is)
  (case r_MOST_WORDS=>exact⟨_,rfl⟩)
  (case g_MOST_ROOMS=>k_is)
  (case r_MOST_ROOMS=>exact⟨_,rfl⟩)
  (case g_MOST_DOORS=>k_is)
  (case r_MOST_DOORS=>exact⟨_,rfl⟩)
  (case g_STILL|l_STILL=>k_is)
  (case c_STILL|d_STILL=>rfl)
  (case s_STILL=>decide)
  (case v_STILL=>exact .cons ⟨_,rfl⟩ .nil)
  (case g_HEADS|l_HEADS=>k_is)
  (case c_HEADS|d_HEADS=>rfl)
  (case s_HEADS=>decide)
  (case v_HEADS=>exact .cons ⟨_,rfl⟩ (.cons ⟨_,rfl⟩ (.cons ⟨_,rfl⟩ .nil)))
  (case T=>constructor<;>first|(refine' Mum.fnG_mk ?a ?l ?c ?k;(case a=>k_is);(case l=>k_is);(case c=>k_is);(case k=>k_is))|(refine' Mum.fnM_mk ?a ?i ?l ?c ?k;(case a=>k_is);(case i=>k_is);(case l=>k_is);(case c=>k_is);(case k=>k_is)))
