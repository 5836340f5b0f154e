
import PyProof.Rows.All
import Wide.All
import OpenK.AllK
import Wide.FinOn
import Lean
import PyProof.EqAt
import PyProof.EqKinds
import PyProof.TupleCall
import PyProof.NeKinds
import PyProof.RaisesMany
import PyProof.RulesAs
import PyProof.NsDelKeeps
import PyProof.InstStoreFacts
import PyProof.ExcClass3
import PyProof.ExcInit
import KE.KTryMore
import PyProof.AutoSeq1
import PyProof.WalkInts
import PySem.Challenge.RW_mumtrial_k89_whole_texts
noncomputable section
open PySem renaming Program->bB,wpAny_bind->ao,wpAny_specialOf->FA,wpAny_call_entry->BZ,wpAny_pure->a_,wpAny_rule->qh,Builtin->cO,isInstance->xQ,wpAny_holding->kE,wpAny_truthy_bool->nh,wpAny_seqItems->md,sizeLine->aj,sysModules->jt,Within->xP,mainGlobals->bV,bootBuiltins->iX,starEach->aB,wpAny_mono->bU,compareOp->eB,behindInMarks->j9,standAt->uF,holding->m_,wpAny_execs_nil->qb,wpAny_execs_cons->AW,swapsWith->l_,assignEach->qa,wpAny_standAt->p_,PassesOwn->AU,wpAny_passesOwn->j8,letOwnedTupleGo->AT,wpAny_pyIter_list->AS,wpAny_pyIter_tuple->AR,foldedSetIterable->uE,binaryOp->m9,sizeLine_eq->AO,getAttr->xM,getMethod->uD,codeAny->zzl83,attributeBase->uB,FuncData->hZ,BindsTo->rC,wpAny_call->rB,codeAny_mono->uA,wpAny_Call_Name_kw->p8,callWith->vS,backToKw->oR,keywordEach->oQ,NameKind->gf,mem_of_lookup->oP,typeLookup->oK,getItem->my,subscripted->vP,sliceBounds->mw,call_meets->oJ,valueAt->mr,callerA->kG,noteFrame->jK,wpAny_newObj_type->rV,ZipApart->oG,wpAny_pyIter_zip->vJ,wpAny_callSpecial?_slot->vI,wpAny_field->cq,wpAny_setField->jg,wpAny_setField_rec->oF,wpAny_onRaise->rS,wpAny_letGo->vE,setFlight->jI,excClassObj->gX,checkBuiltinCall->vy,wpAny_loadPart_at->jH,wpAny_isSubtype_exc->rP,ExceptHandler->vw
open PySem.Builtin.Tuple renaming tupleHashOf->zf
open PySem.Value renaming builtin->ze
open Bool renaming false_ne_true->jr,not_true->AY,false_eq_true->uG,false_and->xO,eq_iff_iff->p9,and_eq_true->iw,and_false->vC,true_and->kz
open Nat renaming add_assoc->BY,le_refl->aN,lt_of_lt_of_le->fE,lt_irrefl->qe,ne_of_lt->cx,le_trans->bj,le_of_lt->ei,ne_of_gt->eK,zero_le->bR,lt_of_le_of_lt->vL,le_succ->kD,sub_zero->vA,not_le_of_lt->fF,min_eq_left->oz,min_eq_right->vp,mod_lt->rM
open List renaming append_nil->fD,range->ng,mem_filter->ir,filterMap_cons->nc,mem_cons_self->cp,mem_cons_of_mem->cj,mem_cons->bw,mem_append->bJ,mem_append_left->cJ,getElem?_eq_some_iff->db,getElem?_set_ne->AX,mem_append_right->dw,length_cons->cw,lookup->iW,map_cons->bf,length_map->am,nodup_cons->ji,of_mem_zip->r_,replicate->kI,length_take->aP,getElem?_append_right->oO,getElem?_append_left->kH,getElem?_map->cb,mem_of_getElem?->cu,length_append->bp,length_replicate->vQ,length_drop->fm,size_toArray->cr,length_set->vO,find?_cons->oH,any_cons->vN,cons_append->jL,length_nil->rZ,nodup_nil->ix,lookup_cons->g7,forIn_cons->rW,mem_map->aO,not_mem_nil->jh,any_toArray->vB,drop_zero->mq,take_length->cZ,getElem?_eq_getElem->fh,all_cons->rQ,all_map->mn,map_append->aQ,nodup_append->fG,drop_of_length_le->oE,drop_eq_getElem_cons->jJ,contains_cons->jf,map_take->rO,map_drop->vq,foldl_cons->oA,take_of_length_le->rN,drop_length->kA,mem_of_mem_take->gW,append_assoc->dA,map_map->dR,sum_cons->oy,mem_map_of_mem->rK,take_append_drop->rJ,foldl_append->rH,length_filter_le->jG,filter_append->rG,getD_eq_getElem?_getD->rF,map_eq_nil_iff->rE,count_append->rD
open Option.some renaming inj->dX
open PySem.W renaming instObj->qg,lookIn->AN,plainGet->xN,hasDictIn->AM,findIn->bW,isFn->m8,makesIn->uC,emptyDict->m7,keepIn->eh,specialIn->AL,kitOne->xL,kia_one->jq,callWith_K->se,fnOf->iy,codeIn->mz,exmOne->vv,nsIn->cF,mg_of->eO,mg_none_of->gV
open PySem.Heap renaming lt_size->aM,SameBut->js,get?_push_of_some->bb,get?_push_size->dz,size_push->kq,get?_update_self->g8,get?_update_other->fj
open PyProof.Rows renaming AllBare->ma,callWith_type1->AQ,IntsAre->rX,boot_all->vm
open Ne renaming symm->cW
open Array renaming length_toList->qd,getElem?_eq_some_iff->eP
open False renaming elim->da
open True renaming intro->eg
open Option renaming isSome_iff_exists->vR,map_some->r8,map_eq_some_iff->rY
open Int renaming toNat_natCast->oM,emod_nonneg->oC,emod_lt_of_pos->oB,eq_ofNat_of_zero_le->je
open PySem.Obj renaming mapSeq->r9,isFreed_of_fields->kB,data_mapFields->gZ,mapFields->cY
open PySem.Paired renaming snoc->vM
open ForInStep renaming yield->vK
open PySem.NameKind renaming free->kF
open PySem.Builtin.SmallTypes renaming nextOf->kC,ownedTupleIsFree->vF
open PySem.Str renaming ofString->vH
open PySem.F renaming slot_tuple_iterator_next->vG,slot_zip_next->vD,plainAttrs_str->ky,slot_str_join->vo,type_str_join->vn,plainAttrs_list->iu,slot_list_append->jd,type_list_append->jc,slot_str_split->vk,type_str_split->vj
open PySem.Heap.SameBut renaming update->rT
open PySem.SeqAt renaming EqAt->bP
open PySem.Builtin.Str renaming strSliceIndices->rR,strKind->vt
open PySem.Txt renaming join->mo,split->bL
open PySem.EntryCells renaming newEntry->vz
open PySem.Builtin.ObjectAttr renaming storeInDict->vx
open PySem.PassesOwn renaming never->ca
theorem Q0:0<=PySem.sizeLine:=by decide
theorem Q1:1<=PySem.sizeLine:=by decide
theorem Q2:2<=PySem.sizeLine:=by decide
theorem Q3:3<=PySem.sizeLine:=by decide
theorem Q4:4<=PySem.sizeLine:=by decide
theorem Q6:6<=PySem.sizeLine:=by decide
theorem zzr0{p:Prop}[Decidable p](h:¬p):decide p=false:=decide_eq_false h
theorem zzr1{p:Prop}[Decidable p](h:p):decide p=true:=decide_eq_true h
abbrev Za:=PySem.W.Frag
abbrev Zb:=List PySem.Str
abbrev Zc:=PySem.Value->PySem.Shared->Prop
abbrev Zd:=List (PySem.Addr×PySem.Obj)
abbrev Ze:=List PySem.Addr
abbrev Zf:=List PySem.Value
section
set_option Elab.async false
set_option linter.all false
set_option maxRecDepth 100000
set_option maxHeartbeats 4000000
namespace L2
open PySem PySem.Spec PyProof.Rows
open Sem (wp)
abbrev d9:=Sum Int Str
def cP:d9->Value->Bool
 |.inl k,v=>Value.isInt k v
 |.inr x,v=>Value.isStrOf x v
def Jv(w:World):d9->Int
 |.inl k=>hashInt k
 |.inr x=>hashStr w x
theorem ar:∀{k:d9}{v:Value},cP k v=true->(∃i t,k=Sum.inl i/\v=Value.int i t)∨(∃x t,k=Sum.inr x/\v=Value.str x t)
 |.inl i,v,h=>by
  obtain⟨t,e⟩:=Value.isInt_shape (k:=i) (v:=v) h;exact .inl ⟨i,t,rfl,e⟩
 |.inr x,v,h=>by
  obtain⟨t,e⟩:=Value.isStrOf_shape (x:=x) (v:=v) h;exact .inr ⟨x,t,rfl,e⟩
theorem CD(i:Int)(t:Tok):cP (.inl i) (.int i t)=true:=by simp[cP,Value.isInt]
theorem CC(x:Str)(t:Tok):cP (.inr x) (.str x t)=true:=by simp[cP,Value.isStrOf]
theorem wK(a b:Int):decide ((Sum.inl a:d9)=Sum.inl b)=(a==b):=by
 by_cases e:a=b
 ·subst e;simp
 ·have h:¬(Sum.inl a:d9)=Sum.inl b:=fun q=>e (Sum.inl.inj q);rw[zzr0 h];exact(beq_eq_false_iff_ne.mpr e).symm
theorem wH(a b:Str):decide ((Sum.inr a:d9)=Sum.inr b)=decide (a=b):=by
 by_cases e:a=b
 ·subst e;simp
 ·have h:¬(Sum.inr a:d9)=Sum.inr b:=fun q=>e (Sum.inr.inj q);rw[zzr0 h,zzr0 e]
theorem wJ(a:Int)(b:Str):decide ((Sum.inl a:d9)=Sum.inr b)=false:=zzr0 (fun q=>nomatch q)
theorem wI(a:Str)(b:Int):decide ((Sum.inr a:d9)=Sum.inl b)=false:=zzr0 (fun q=>nomatch q)
def bX(prog:bB)(w:World):PySem.KeyKind prog w d9 where
 is:=cP
 hash:=Jv w
 inj:=fun v a b ha hb=>by
  rcases ar ha with⟨i,t,rfl,rfl⟩|⟨x,t,rfl,rfl⟩
  ·rcases ar hb with⟨j,u,rfl,e⟩|⟨y,u,rfl,e⟩
   ·injection e with e1 _;rw[e1]
   ·exact nomatch e
  ·rcases ar hb with⟨j,u,rfl,e⟩|⟨y,u,rfl,e⟩
   ·exact nomatch e
   ·injection e with e1 _;rw[e1]
 byValue:=fun k v h=>by
  rcases ar h with⟨i,t,rfl,rfl⟩|⟨x,t,rfl,rfl⟩<;>rfl
 pyHash:=fun hv h=>by
  rcases ar hv with⟨i,t,rfl,rfl⟩|⟨x,t,rfl,rfl⟩
  ·exact wpAny_pyHash_int h
  ·exact wpAny_pyHash_str h
 eqBool:=fun hu hv h=>by
  rcases ar hu with⟨i,t,rfl,rfl⟩|⟨x,t,rfl,rfl⟩
  ·rcases ar hv with⟨j,u,rfl,rfl⟩|⟨y,u,rfl,rfl⟩
   ·rw[wK]at h;exact wpAny_eqBool_int h
   ·rw[wJ]at h;exact bP.int_str i t y u _ _ _ _ h
  ·rcases ar hv with⟨j,u,rfl,rfl⟩|⟨y,u,rfl,rfl⟩
   ·rw[wI]at h;exact bP.str_int x t j u _ _ _ _ h
   ·rw[wH]at h;exact wpAny_eqBool_str h
 «strs»:=fun k x t v h=>by
  rcases ar h with⟨i,u,rfl,e⟩|⟨y,u,rfl,e⟩
  ·exact nomatch e
  ·injection e with e1 _;subst e1;cases v<;>rfl
theorem yy(prog:bB)(w:World)(i:Int)(t:Tok):(bX prog w).is (.inl i) (.int i t)=true:=CD i t
theorem yv(prog:bB)(w:World)(x:Str)(t:Tok):(bX prog w).is (.inr x) (.str x t)=true:=CC x t
end L2
namespace L2
open PySem PySem.Spec PyProof.Rows
open Sem (wp)
inductive TK where
 |k (a:d9)
 |t (l:List TK)
mutual
def Hk:(x y:TK)->Decidable (x=y)
 |.k a,.k b=>if h:a=b then Decidable.isTrue (by rw[h])else Decidable.isFalse fun e=>h (by injection e)
 |.t l,.t m=>match decTKs l m with
  |Decidable.isTrue h=>Decidable.isTrue (by rw[h])
  |Decidable.isFalse h=>Decidable.isFalse fun e=>h (by injection e)
 |.k _,.t _=>Decidable.isFalse nofun
 |.t _,.k _=>Decidable.isFalse nofun
def decTKs:(x y:List TK)->Decidable (x=y)
 |[],[]=>Decidable.isTrue rfl
 |[],_::_=>Decidable.isFalse nofun
 |_::_,[]=>Decidable.isFalse nofun
 |a::l,b::m=>match Hk a b with
  |Decidable.isTrue h=>match decTKs l m with
   |Decidable.isTrue h'=>Decidable.isTrue (by rw[h,h'])
   |Decidable.isFalse h'=>Decidable.isFalse fun e=>h' (by injection e)
  |Decidable.isFalse h=>Decidable.isFalse fun e=>h (by injection e)
end
instance:DecidableEq TK:=Hk
mutual
def TK.depth:TK->Nat
 |.k _=>0
 |.t l=>TK.depths l+1
def TK.depths:List TK->Nat
 |[]=>0
 |a::r=>max (TK.depth a) (TK.depths r)
end
mutual
def TK.hash(w:World):TK->Int
 |.k a=>Jv w a
 |.t l=>reduceHash (zf (TK.hashs w l))
def TK.hashs(w:World):List TK->List Int
 |[]=>[]
 |a::r=>TK.hash w a::TK.hashs w r
end
mutual
def TK.draws:TK->Nat
 |.k _=>1
 |.t l=>TK.drawss l+1
def TK.drawss:List TK->Nat
 |[]=>0
 |a::r=>TK.draws a+TK.drawss r
end
mutual
def l9(h:Heap):TK->Value->Prop
 |.k a,v=>cP a v=true
 |.t l,v=>∃a o items n,v=.ref a/\h.get? a=some o/\o.cls=.type "tuple"/\o.data=.seq items n/\TAts h l items.toList
def TAts(h:Heap):List TK->List Value->Prop
 |[],vs=>vs=[]
 |k::r,vs=>∃v us,vs=v::us/\l9 h k v/\TAts h r us
end
theorem l9.inj{h:Heap}:∀(d:Nat) {x y:TK}{v:Value},x.depth<=d->l9 h x v->l9 h y v->x=y:=by
 have key:∀(d:Nat) (ih:∀{x y:TK}{v:Value},x.depth<=d->l9 h x v->l9 h y v->x=y) (xs ys:List TK) (vs:Zf),TK.depths xs<=d->TAts h xs vs->TAts h ys vs->xs=ys:=by
  intro d ih xs
  induction xs with
  |nil =>
   intro ys vs _ hx hy;have hx':vs=[]:=hx;subst hx';cases ys with
   |nil=>rfl
   |cons y ys=>obtain⟨_,_,e,_⟩:=hy;cases e
  |cons x xs ihl =>
   intro ys vs hd hx hy;obtain⟨v,us,rfl,hx1,hx2⟩:=hx;cases ys with
   |nil=>have hy':v::us=[]:=hy;cases hy'
   |cons y ys =>
    obtain⟨v',us',e,hy1,hy2⟩:=hy;cases e;have hd':max x.depth (TK.depths xs)<=d:=hd;rw[ih (by omega) hx1 hy1,ihl ys us (by omega) hx2 hy2]
 have leaf:∀(a:d9) (l:List TK) (v:Value),l9 h (.k a) v->l9 h (.t l) v->False:=by
  intro a l v h1 h2;obtain⟨b,o,items,n,rfl,_⟩:=h2;rcases ar (show cP a (.ref b)=true from h1)with⟨_,_,_,e⟩|⟨_,_,_,e⟩<;>cases e
 have kk:∀(a b:d9) (v:Value),cP a v=true->cP b v=true->a=b:=by
  intro a b v h1 h2;rcases ar h1 with⟨i,t,rfl,rfl⟩|⟨i,t,rfl,rfl⟩
  ·rcases ar h2 with⟨j,u,rfl,e⟩|⟨j,u,rfl,e⟩
   ·cases e;rfl
   ·cases e
  ·rcases ar h2 with⟨j,u,rfl,e⟩|⟨j,u,rfl,e⟩
   ·cases e
   ·cases e;rfl
 intro d
 induction d with
 |zero =>
  intro x y v hd hx hy;cases x with
  |t l=>exact absurd hd (by show ¬(TK.depths l+1<=0);omega)
  |k a =>
   cases y with
   |k b=>rw[kk a b v hx hy]
   |t l=>exact(leaf a l v hx hy).elim
 |succ d ih =>
  intro x y v hd hx hy;cases x with
  |k a =>
   cases y with
   |k b=>rw[kk a b v hx hy]
   |t l=>exact(leaf a l v hx hy).elim
  |t l =>
   cases y with
   |k b=>exact(leaf b l v hy hx).elim
   |t l' =>
    obtain⟨a,o,items,n,rfl,ho,hc,hdt,hi⟩:=hx;obtain⟨a',o',items',n',e,ho',hc',hdt',hi'⟩:=hy;cases e;rw[ho]at ho';cases ho';rw[hdt]at hdt';injection hdt' with e1 _;subst e1;rw[key d (fun h1=>ih h1) l l' items.toList (by have:TK.depths l+1<=d+1:=hd;omega) hi hi']
theorem l9.mono{h h':Heap}(k:∀a o items n,h.get? a=some o->o.cls=.type "tuple"->o.data=.seq items n->h'.get? a=some o):∀(d:Nat) {x:TK}{v:Value},x.depth<=d->l9 h x v->l9 h' x v:=by
 have key:∀(d:Nat) (ih:∀{x:TK}{v:Value},x.depth<=d->l9 h x v->l9 h' x v) (xs:List TK) (vs:Zf),TK.depths xs<=d->TAts h xs vs->TAts h' xs vs:=by
  intro d ih xs
  induction xs with
  |nil=>intro vs _ hx;exact hx
  |cons x xs ihl =>
   intro vs hd hx;obtain⟨v,us,rfl,hx1,hx2⟩:=hx;have hd':max x.depth (TK.depths xs)<=d:=hd;exact⟨v,us,rfl,ih (by omega) hx1,ihl us (by omega) hx2⟩
 intro d
 induction d with
 |zero =>
  intro x v hd hx;cases x with
  |t l=>exact absurd hd (by show ¬(TK.depths l+1<=0);omega)
  |k a=>exact hx
 |succ d ih =>
  intro x v hd hx;cases x with
  |k a=>exact hx
  |t l =>
   obtain⟨a,o,items,n,rfl,ho,hc,hdt,hi⟩:=hx;exact⟨a,o,items,n,rfl,k a o items n ho hc hdt,hc,hdt,key d (fun h1=>ih h1) l _ (by have:TK.depths l+1<=d+1:=hd;omega) hi⟩
section
variable{prog:bB}{w:World}
theorem FK:∀(d:Nat) {A:Around}{E:Zc}{s:Shared}{k:TK}{v:Value}{Q:Int->Shared->Prop},k.depth<=d->A.units+d<cLine->l9 s.heap k v->Q (k.hash w) { s with toks:=s.toks+k.draws } ->
  wpAny (model prog w) A (pyHash v) Q E s:=by
 intro d
 induction d with
 |zero =>
  intro A E s k v Q hd hu hk h;cases k with
  |t l=>exact absurd hd (by show ¬(TK.depths l+1<=0);omega)
  |k a=>exact(bX prog w).pyHash (k:=a) hk h
 |succ d ih =>
  intro A E s k v Q hd hu hk h;cases k with
  |k a=>exact(bX prog w).pyHash (k:=a) hk h
  |t l =>
   obtain⟨a,o,items,n,rfl,ho,hc,hdt,hi⟩:=hk;have hT:s.TypeIs (.ref a) "tuple":=⟨o,ho,hc⟩;have hdl:TK.depths l<=d:=by have:TK.depths l+1<=d+1:=hd;omega
   unfold pyHash
   first|unfold pyHashByItsType|skip
   first|refine ao (wpAny_cRoomFor_or (.inr (by omega)) ?_)|skip
   refine ao (FA hT F.slot_tuple_hash.lookup ?_);show wpAny _ _ (if(some (ze "tuple.__hash__")==some Value.none)=true then _ else _) Q E s
   rw[if_neg (by rw[beq_builtin_none];exact jr)];refine ao (FA hT F.slot_tuple_hash.lookup ?_);show wpAny _ _ (callSpecialIfBoundUnlessNone? (.ref a) "__hash__" _ >>= _) Q E s;refine ao (wpAny_callSpecialIfBoundUnlessNone?_slot hT F.slot_tuple_hash (BZ F.slot_tuple_hash hT F.entry_tuple_hash ?_ (F.args_tuple_hash_1 _)));show wpAny _ _ (cO.Tuple.tupleItemsOf (.ref a) >>= _) _ _ s;refine ao (wpAny_tupleItemsOf ho hdt ?_);refine ao ?_;rw[<-Array.forIn_toList];refine wpAny_forIn_list _
    (fun rest (b:Array Int) s'=>∃done left,l=done++left/\TAts s.heap left rest/\b.toList=TK.hashs w done/\s'={ s with toks:=s.toks+TK.drawss done })
    _ ?_ ?_ _ _ ⟨[],l,rfl,hi,rfl,rfl⟩
   ·rintro x rest b s' ⟨done,left,e,hl,hb,rfl⟩;cases left with
    |nil=>have hl':x::rest=[]:=hl;cases hl'
    |cons k' left =>
     obtain⟨x',rest',e',h1,h2⟩:=hl;cases e';have hdk:k'.depth<=d:=by
      have gen:∀(p:List TK),TK.depths (p++k'::left)<=d->k'.depth<=d:=by
       intro p
       induction p with
       |nil=>intro hp;have hp':max k'.depth (TK.depths left)<=d:=hp;omega
       |cons q p ihp=>intro hp;have hp':max q.depth (TK.depths (p++k'::left))<=d:=hp;exact ihp (by omega)
      exact gen done (by rw[<-e];exact hdl)
     have hs:TK.hashs w (done++[k'])=TK.hashs w done++[k'.hash w]:=by
      clear e hb
      induction done with
      |nil=>rfl
      |cons q p ihp=>show _::TK.hashs w (p++[k'])=_;rw[ihp];rfl
     have hdr:TK.drawss (done++[k'])=TK.drawss done+k'.draws:=by
      clear e hb hs
      induction done with
      |nil=>show k'.draws+0=0+k'.draws;omega
      |cons q p ihp=>show q.draws+TK.drawss (p++[k'])=q.draws+TK.drawss p+k'.draws;rw[ihp];omega
     refine ao (ih (k:=k') hdk (by show A.units+1+d<cLine;omega) h1 ?_)
     first
      |exact a_ ⟨done++[k'],left,by rw[e];simp,h2,by rw[hs];simp[hb],by rw[hdr];simp[BY]⟩
      |exact ao (a_ (a_ ⟨done++[k'],left,by rw[e];simp,h2,by rw[hs];simp[hb],by rw[hdr];simp[BY]⟩))
   ·rintro b s' ⟨done,left,e,hl,hb,rfl⟩;cases left with
    |cons k' left=>obtain⟨_,_,e',_⟩:=hl;cases e'
    |nil =>
     rw[fD]at e;subst e;show wpAny _ _ (retInt (zf b.toList)) _ _ _;rw[hb];refine wpAny_ret_mkInt ?_;have h':Q (reduceHash (zf (TK.hashs w l))) { s with toks:=s.toks+(TK.drawss l+1) }:=h;show wpAny _ _ (if(decide (-(2:Int) ^ 63<=zf (TK.hashs w l)) && decide (zf (TK.hashs w l)<2 ^ 63))=true then _ else _) Q E _
     unfold reduceHash at h';by_cases hr:(decide (-(2:Int) ^ 63<=zf (TK.hashs w l)) && decide (zf (TK.hashs w l)<2 ^ 63))=true
     ·rw[if_pos hr];rw[if_pos hr]at h';exact a_ (by simpa[BY]using h')
     ·rw[if_neg hr];rw[if_neg hr]at h';exact ao (qh (a_ (by simpa[BY]using h')))
theorem B6(d:Nat)(ih:∀{A:Around}{E:Zc}{s:Shared}{x y:TK}{u v:Value}{Q:Bool->Shared->Prop},x.depth<=d->y.depth<=d->A.units+d<cLine->l9 s.heap x u->l9 s.heap y v->Q (decide (x=y)) s->wpAny (model prog w) A (eqBool u v) Q E s)
  {A:Around}{E:Zc}{s:Shared}{x y:List TK}{a b:Addr}{P:Fin->Shared->Prop}{oa ob:Obj}{xs ys:Array Value}{na nb:Nat}(hx:TK.depths x<=d) (hy:TK.depths y<=d) (hu:A.units+d<cLine)
  (hoa:s.heap.get? a=some oa) (hda:oa.data=.seq xs na) (hia:TAts s.heap x xs.toList) (hob:s.heap.get? b=some ob) (hcb:ob.cls=.type "tuple") (hdb:ob.data=.seq ys nb) (hib:TAts s.heap y ys.toList)
  (h:P (.done (.ret (.bool (decide (x=y))))) s):wpAny (model prog w) A (cO.«tuple.__eq__» ⟨[.ref a,.ref b],[]⟩) P E s:=by
 have hTb:s.TypeIs (.ref b) "tuple":=⟨ob,hob,hcb⟩;show wpAny _ _ (xQ (.ref b) (.type "tuple") >>= _) _ _ s;refine ao (wpAny_isInstance hTb isSubtype_tuple_tuple ?_);simp only[AY,uG,if_false];refine ao (wpAny_tupleItemsOf hoa hda ?_);refine ao (wpAny_tupleItemsOf hob hdb ?_);refine ao ?_;refine wpAny_forIn_list _
  (fun rest r s'=>r.1=none/\s'=s/\∃x' y' xs' ys',rest=List.zip xs' ys'/\TAts s.heap x' xs'/\TAts s.heap y' ys'/\TK.depths x'<=d/\TK.depths y'<=d/\decide (x'=y')=decide (x=y)/\(xs'.length==ys'.length)=(xs.size==ys.size))
  _ ?_ ?_ _ _ ⟨rfl,rfl,x,y,xs.toList,ys.toList,rfl,hia,hib,hx,hy,rfl,by simp⟩
 ·rintro⟨u,v⟩ rest r s' ⟨hr,rfl,x',y',xs',ys',hz,hx',hy',dx,dy,hdec,hlen⟩;cases x' with
  |nil =>
   have e:xs'=[]:=hx';subst e;simp at hz
  |cons k1 x'' =>
   obtain⟨u',xs'',rfl,h1,hx''⟩:=hx';cases y' with
   |nil =>
    have e:ys'=[]:=hy';subst e;simp at hz
   |cons k2 y'' =>
    obtain⟨v',ys'',rfl,h2,hy''⟩:=hy';simp only[List.zip_cons_cons,List.cons.injEq,Prod.mk.injEq]at hz;obtain⟨⟨rfl,rfl⟩,rfl⟩:=hz;have dx':max k1.depth (TK.depths x'')<=d:=dx;have dy':max k2.depth (TK.depths y'')<=d:=dy;refine ao (ih (x:=k1) (y:=k2) (by omega) (by omega) hu h1 h2 ?_);by_cases hk:k1=k2
    ·subst hk;rw[zzr1 rfl];simp only[AY,uG,if_false];refine a_ ⟨rfl,rfl,x'',y'',xs'',ys'',rfl,hx'',hy'',by omega,by omega,?_,by simpa using hlen⟩;rw[<-hdec];by_cases hxy:x''=y''
     ·simp[hxy]
     ·simp[hxy]
    ·rw[zzr0 hk];simp only[Bool.not_false,if_true];have hf:decide (x=y)=false:=by rw[<-hdec];simp[hk]
     rw[hf]at h;exact ao (a_ (a_ (a_ h)))
 ·rintro⟨r1,r2⟩ s' ⟨hr,rfl,x',y',xs',ys',hz,hx',hy',dx,dy,hdec,hlen⟩;simp only at hr;subst hr;refine a_ ?_;have hfin:(xs.size==ys.size)=decide (x=y):=by
   rw[<-hdec,<-hlen];cases x' with
   |nil =>
    have e:xs'=[]:=hx';subst e;cases y' with
    |nil=>have e:ys'=[]:=hy';subst e;simp
    |cons _ _=>obtain⟨_,_,rfl,_⟩:=hy';simp
   |cons _ _ =>
    obtain⟨_,_,rfl,_⟩:=hx';cases y' with
    |nil=>have e:ys'=[]:=hy';subst e;simp
    |cons _ _=>obtain⟨_,_,rfl,_⟩:=hy';simp at hz
  show P (.done (.ret (.bool (xs.size==ys.size)))) s';rw[hfin];exact h
theorem Jc:∀(d:Nat) {A:Around}{E:Zc}{s:Shared}{x y:TK}{u v:Value}{Q:Bool->Shared->Prop},x.depth<=d->y.depth<=d->A.units+d<cLine->l9 s.heap x u->l9 s.heap y v->Q (decide (x=y)) s ->
  wpAny (model prog w) A (eqBool u v) Q E s:=by
 have mixed1:∀{A:Around}{E:Zc}{s:Shared}{a:d9}{l:List TK}{u v:Value}{Q:Bool->Shared->Prop},A.units<cLine->l9 s.heap (.k a) u->l9 s.heap (.t l) v->Q false s->wpAny (model prog w) A (eqBool u v) Q E s:=by
  intro A E s a l u v Q hu hx hy h;obtain⟨b,o,items,n,rfl,ho,hc,hdt,hi⟩:=hy;have ht:s.heap.IsTuple b items:=⟨o,ho,hc,n,hdt⟩;rcases ar (show cP a u=true from hx)with⟨i,t,rfl,rfl⟩|⟨i,t,rfl,rfl⟩
  ·exact bP.int_tuple i t ht hu prog w E Q h
  ·exact bP.str_tuple i t ht hu prog w E Q h
 have mixed2:∀{A:Around}{E:Zc}{s:Shared}{a:d9}{l:List TK}{u v:Value}{Q:Bool->Shared->Prop},A.units<cLine->l9 s.heap (.t l) u->l9 s.heap (.k a) v->Q false s->wpAny (model prog w) A (eqBool u v) Q E s:=by
  intro A E s a l u v Q hu hx hy h;obtain⟨b,o,items,n,rfl,ho,hc,hdt,hi⟩:=hx;have ht:s.heap.IsTuple b items:=⟨o,ho,hc,n,hdt⟩;rcases ar (show cP a v=true from hy)with⟨i,t,rfl,rfl⟩|⟨i,t,rfl,rfl⟩
  ·exact bP.tuple_int i t ht hu prog w E Q h
  ·exact bP.tuple_str i t ht hu prog w E Q h
 have leaves:∀{A:Around}{E:Zc}{s:Shared}{a b:d9}{u v:Value}{Q:Bool->Shared->Prop},l9 s.heap (.k a) u->l9 s.heap (.k b) v->Q (decide (TK.k a=TK.k b)) s->wpAny (model prog w) A (eqBool u v) Q E s:=by
  intro A E s a b u v Q hx hy h;refine(bX prog w).eqBool (a:=a) (b:=b) hx hy ?_;by_cases e:a=b
  ·subst e;simpa using h
  ·have:¬(TK.k a=TK.k b):=fun z=>e (by injection z);rw[zzr0 this]at h;rw[zzr0 e];exact h
 intro d
 induction d with
 |zero =>
  intro A E s x y u v Q hdx hdy hu hx hy h;cases x with
  |t l=>exact absurd hdx (by show ¬(TK.depths l+1<=0);omega)
  |k a =>
   cases y with
   |t l=>exact absurd hdy (by show ¬(TK.depths l+1<=0);omega)
   |k b=>exact leaves hx hy h
 |succ d ih =>
  intro A E s x y u v Q hdx hdy hu hx hy h;cases x with
  |k a =>
   cases y with
   |k b=>exact leaves hx hy h
   |t l =>
    rw[zzr0 (by intro z;cases z)]at h;exact mixed1 (by omega) hx hy h
  |t l =>
   cases y with
   |k b =>
    rw[zzr0 (by intro z;cases z)]at h;exact mixed2 (by omega) hx hy h
   |t m =>
    have hl:TK.depths l<=d:=by have:TK.depths l+1<=d+1:=hdx;omega
    have hm:TK.depths m<=d:=by have:TK.depths m+1<=d+1:=hdy;omega
    have hx0:=hx;have hy0:=hy;obtain⟨a,oa,xs,na,rfl,hoa,hca,hda,hia⟩:=hx;obtain⟨b,ob,ys,nb,rfl,hob,hcb,hdb,hib⟩:=hy;have hTa:s.TypeIs (.ref a) "tuple":=⟨oa,hoa,hca⟩;have hTb:s.TypeIs (.ref b) "tuple":=⟨ob,hob,hcb⟩;have hd':decide (TK.t l=TK.t m)=decide (l=m):=by
     by_cases e:l=m
     ·subst e;simp
     ·have:¬(TK.t l=TK.t m):=fun z=>e (by injection z);rw[zzr0 this,zzr0 e]
    unfold eqBool
    try with_reducible refine kE ?_
    show wpAny _ _ (if(Value.ref a==Value.ref b)=true then _ else _) Q E s
    by_cases hab:(Value.ref a==Value.ref b)=true
    ·rw[if_pos hab];have e:a=b:=by have:=eq_of_beq hab;injection this
     subst e;have e2:TK.t l=TK.t m:=l9.inj _ (aN _) hx0 hy0;rw[zzr1 e2]at h;exact ao (qh (a_ h))
    ·rw[if_neg hab];rw[hd']at h;exact ao (wpAny_richCompare_same_room (op:=.Eq) hTa hTb F.slot_tuple_eq
      (BZ F.slot_tuple_eq hTa F.entry_tuple_eq (B6 d (fun h1 h2 h3 h4 h5 h6=>ih h1 h2 h3 h4 h5 h6) hl hm (by show A.units+1+d<cLine;omega) hoa hda hia hob hcb hdb hib ⟨_,rfl,(fun e=>nomatch e),nh h⟩) (F.args_tuple_eq_2 _ _)) (by omega))
theorem Dn:∀(d:Nat) {A:Around}{E:Zc}{s:Shared}{k:TK}{v:Value}{Q:Bool->Shared->Prop},k.depth<=d->l9 s.heap k v->Q true s->wpAny (model prog w) A (eqIsQuiet d v) Q E s:=by
 intro d
 induction d with
 |zero =>
  intro A E s k v Q hd hk h;cases k with
  |t l=>exact absurd hd (by show ¬(TK.depths l+1<=0);omega)
  |k a=>rw[eqIsQuiet_byValue _ ((bX prog w).byValue a v hk)];exact a_ h
 |succ d ih =>
  intro A E s k v Q hd hk h;cases k with
  |k a=>rw[eqIsQuiet_byValue _ ((bX prog w).byValue a v hk)];exact a_ h
  |t l =>
   have hl:TK.depths l<=d:=by have:TK.depths l+1<=d+1:=hd;omega
   obtain⟨a,o,items,n,rfl,ho,hc,hdt,hi⟩:=hk;have hT:s.TypeIs (.ref a) "tuple":=⟨o,ho,hc⟩;unfold eqIsQuiet;refine ao (FA hT F.slot_tuple_eq.lookup ?_);show wpAny _ _ (xQ (.ref a) (.type "tuple") >>= _) _ _ s;refine ao (wpAny_isInstance hT isSubtype_tuple_tuple ?_);simp only[AY,uG,if_false];refine ao (md ho hdt ?_);refine ao ?_;show wpAny _ _ (forIn items _ _) _ _ s;rw[<-Array.forIn_toList];refine wpAny_forIn_list _ (fun rest r s'=>r.1=none/\s'=s/\∃left,TAts s.heap left rest/\TK.depths left<=d) _ ?_ ?_ _ _ ⟨rfl,rfl,l,hi,hl⟩
   ·rintro v rest r s' ⟨hr,rfl,left,hall,hdl⟩;cases left with
    |nil=>have e:v::rest=[]:=hall;cases e
    |cons k' left =>
     obtain⟨v',rest',e,h1,h2⟩:=hall;cases e;have hdl':max k'.depth (TK.depths left)<=d:=hdl;refine ao (ih (k:=k') (by omega) h1 ?_);simp only[AY,uG,if_false];exact a_ ⟨rfl,rfl,left,h2,by omega⟩
   ·rintro⟨r1,r2⟩ s' ⟨hr,rfl,_⟩;simp only at hr;subst hr;exact a_ h
def fH(prog:bB)(w:World):HeapKind prog w TK where
 is:=fun h k a=>l9 h k (.ref a)/\k.depth<=8
 hash:=TK.hash w
 draws:=TK.draws
 room:=fun A=>A.units+8<cLine
 inj:=fun hx hy=>l9.inj 8 hx.2 hx.1 hy.1
 keeps:=fun{h h' k a d o es ep} x ho hd hs=>⟨l9.mono (fun b ob items n hb _ hdb=>(hs.2 b fun e=>by
  subst e;rw[ho]at hb;cases hb;rw[hd]at hdb;cases hdb).trans hb) 8 x.2 x.1,x.2⟩
 pyHash:=fun hu hk h=>FK 8 hk.2 hu hk.1 h
 eqBool:=fun hu hx hy h=>Jc 8 hx.2 hy.2 hu hx.1 hy.1 h
 quiet:=fun hk h=>Dn 8 hk.2 hk.1 h
end
end L2
namespace L2
open PySem PySem.Spec PyProof.Rows
inductive V where
 |non|bl (b:Bool)|int (i:Int)|str (x:Str)|byt (b:Array UInt8)|flt (b:UInt64)|ref (a:Addr)|ty (n:String)
 deriving DecidableEq
def RelV:V->Value->Prop
 |.non,u=>u=Value.none
 |.bl b,u=>u=Value.bool b
 |.int i,u=>∃t,u=Value.int i t
 |.str x,u=>∃t,u=Value.str x t
 |.byt b,u=>∃t,u=Value.bytes b t
 |.flt b,u=>∃t,u=Value.float b t
 |.ref a,u=>u=Value.ref a
 |.ty n,u=>u=Value.type n
abbrev bg:List V->List Value->Prop:=Paired RelV
theorem bg.length{xs:List V}{us:Zf}(r:bg xs us):xs.length=us.length:=Paired.length r
theorem bg.get:∀{xs:List V}{us:Zf}{i:Nat}{x:V},bg xs us->xs[i]?=some x->∃u,us[i]?=some u/\RelV x u
 |_,_,_,_,.nil,e=>by simp at e
 |_,_,0,_,.cons r _,e=>by simp at e;subst e;exact⟨_,rfl,r⟩
 |_,_,i+1,x,.cons _ t,e=>by
  obtain⟨u,h1,h2⟩:=bg.get (i:=i) (x:=x) t (by simpa using e);exact⟨u,by simpa using h1,h2⟩
theorem bg.set{x:V}{u:Value}(r:RelV x u):∀{xs:List V}{us:Zf}(i:Nat),bg xs us->bg (xs.set i x) (us.set i u)
 |_,_,_,.nil=>.nil
 |_,_,0,.cons _ t=>.cons r t
 |_,_,i+1,.cons q t=>.cons q (bg.set r i t)
theorem bg.append:∀{xs ys:List V}{us ws:Zf},bg xs us->bg ys ws->bg (xs++ys) (us++ws)
 |_,_,_,_,.nil,s=>s
 |_,_,_,_,.cons r t,s=>.cons r (bg.append t s)
theorem bg.take:∀{xs:List V}{us:Zf}(n:Nat),bg xs us->bg (xs.take n) (us.take n)
 |_,_,0,_=>.nil
 |_,_,_+1,.nil=>.nil
 |_,_,n+1,.cons r t=>.cons r (bg.take n t)
theorem bg.drop:∀{xs:List V}{us:Zf}(n:Nat),bg xs us->bg (xs.drop n) (us.drop n)
 |_,_,0,r=>r
 |_,_,_+1,.nil=>.nil
 |_,_,n+1,.cons _ t=>bg.drop n t
def iN:Option V->Option Value->Prop
 |some v,some u=>RelV v u
 |none,none=>True
 |_,_=>False
def KV{κ:Type}:List (κ×V)->List (κ×Value)->Prop:=Paired fun(p:κ×V) (q:κ×Value)=>p.1=q.1/\RelV p.2 q.2
def kV:d9->V
 |.inl i=>.int i
 |.inr x=>.str x
inductive HO where
 |lst (xs:List V)
 |tup (xs:List V)
 |dK (kvs:List (d9×V))|dT (kvs:List (TK×V))
 |set (S:Int->Bool) (n:Nat)
 |ins (C dx:Addr) (fs:List (Str×V))
 |own (x:Addr)
 |xd (fs:List (Str×V))
 |met (f x:Addr)
 |rng (lo hi:Int)
 |frz (o:Obj) (u:HO)
 |tbl (ps:Array Value)
 |ext (φ:Heap->Prop)
abbrev Hp:=Addr->Option HO
mutual
def ii(H:Hp):TK->V->Prop
 |.k a,v=>v=kV a
 |.t l,v=>∃b xs,v=.ref b/\H b=some (.tup xs)/\TKAts H l xs
def TKAts(H:Hp):List TK->List V->Prop
 |[],vs=>vs=[]
 |k::r,vs=>∃v us,vs=v::us/\ii H k v/\TKAts H r us
end
def GJ(K:Za)(H:Hp)(a:Addr)(xs:List V):Prop :=
 H a=some (.tup xs)∨∃(o:Obj) (its:Array Value) (n:Nat),K.lookup a=some o/\o.cls=.type "tuple"/\o.data=.seq its n/\its.size<=aj/\bg xs its.toList
theorem GJ.keeps{K:Za}{H H':Hp}{a:Addr}{xs:List V}(h:GJ K H a xs)(ht:∀b xs,H b=some (.tup xs)->H' b=some (.tup xs)):GJ K H' a xs:=h.imp (ht a xs) id
mutual
def zc(K:Za)(H:Hp):TK->V->Prop
 |.k a,v=>v=kV a
 |.t l,v=>∃b xs,v=.ref b/\GJ K H b xs/\TKCs K H l xs
def TKCs(K:Za)(H:Hp):List TK->List V->Prop
 |[],vs=>vs=[]
 |k::r,vs=>∃v us,vs=v::us/\zc K H k v/\TKCs K H r us
end
theorem zc.keeps{K:Za}{H H':Hp}(ht:∀b xs,H b=some (.tup xs)->H' b=some (.tup xs)):∀(d:Nat) {k:TK}{v:V},k.depth<=d->zc K H k v->zc K H' k v:=by
 have key:∀(d:Nat) (ih:∀{k:TK}{v:V},k.depth<=d->zc K H k v->zc K H' k v) (xs:List TK) (vs:List V),TK.depths xs<=d->TKCs K H xs vs->TKCs K H' xs vs:=by
  intro d ih xs
  induction xs with
  |nil=>intro vs _ hx;exact hx
  |cons x xs ihl =>
   intro vs hd hx;obtain⟨v,us,rfl,hx1,hx2⟩:=hx;have hd':max x.depth (TK.depths xs)<=d:=hd;exact⟨v,us,rfl,ih (by omega) hx1,ihl us (by omega) hx2⟩
 intro d
 induction d with
 |zero =>
  intro k v hd hx;cases k with
  |t l=>exact absurd hd (by show ¬(TK.depths l+1<=0);omega)
  |k a=>exact hx
 |succ d ih =>
  intro k v hd hx;cases k with
  |k a=>exact hx
  |t l =>
   obtain⟨b,xs,rfl,hb,hi⟩:=hx;exact⟨b,xs,rfl,hb.keeps ht,key d (fun h1=>ih h1) l xs (by have:TK.depths l+1<=d+1:=hd;omega) hi⟩
theorem ii.c{K:Za}{H:Hp}:∀(d:Nat) {k:TK}{v:V},k.depth<=d->ii H k v->zc K H k v:=by
 have key:∀(d:Nat) (ih:∀{k:TK}{v:V},k.depth<=d->ii H k v->zc K H k v) (xs:List TK) (vs:List V),TK.depths xs<=d->TKAts H xs vs->TKCs K H xs vs:=by
  intro d ih xs
  induction xs with
  |nil=>intro vs _ hx;exact hx
  |cons x xs ihl =>
   intro vs hd hx;obtain⟨v,us,rfl,hx1,hx2⟩:=hx;have hd':max x.depth (TK.depths xs)<=d:=hd;exact⟨v,us,rfl,ih (by omega) hx1,ihl us (by omega) hx2⟩
 intro d
 induction d with
 |zero =>
  intro k v hd hx;cases k with
  |t l=>exact absurd hd (by show ¬(TK.depths l+1<=0);omega)
  |k a=>exact hx
 |succ d ih =>
  intro k v hd hx;cases k with
  |k a=>exact hx
  |t l =>
   obtain⟨b,xs,rfl,hb,hi⟩:=hx;exact⟨b,xs,rfl,.inl hb,key d (fun h1=>ih h1) l xs (by have:TK.depths l+1<=d+1:=hd;omega) hi⟩
def upd(H:Hp)(a:Addr)(o:HO):Hp:=fun b=>if b=a then some o else H b
theorem aa{H:Hp}{a:Addr}{o:HO}:upd H a o a=some o:=by unfold upd;rw[if_pos rfl]
theorem ai{H:Hp}{a b:Addr}{o:HO}(h:b≠a):upd H a o b=H b:=by unfold upd;rw[if_neg h]
theorem qU{H:Hp}{a:Addr}{o u:HO}:upd (upd H a o) a u=upd H a u:=by
 funext b;unfold upd;split<;>rfl
theorem Ha{H:Hp}{a b:Addr}{o u:HO}(h:H a=some o)(h':H b=some u)(d:o≠u):a≠b:=by
 intro e;subst e;rw[h]at h';exact d (dX h')
theorem ah{H:Hp}{a b:Addr}{o:HO}(h:H a=some o)(h':H b=none):a≠b:=by
 intro e;subst e;rw[h]at h';cases h'
section
variable(P:bB)(w:World)(K:Za)
def cL(H:Hp)(h:Heap)(a:Addr):HO->Prop
 |.lst xs=>xs.length<=aj/\∃(its:Zf) (n:Nat),bg xs its/\h.get? a=some { cls:=.type "list",data:=.seq its.toArray n }
 |.tup xs=>xs.length<=aj/\∃its:List Value,bg xs its/\IsTup h a its.toArray
 |.dK kvs=>kvs.length<=aj/\(a==jt)=false/\∃vs,KV kvs vs/\h.DictOf (bX P w) a vs
 |.dT kvs=>kvs.length<=aj/\(a==jt)=false/\∃xs:List (TK×Addr×Value),
   Paired (fun(p:TK×V) (q:TK×Addr×Value)=>p.1=q.1/\zc K H p.1 (.ref q.2.1)/\p.1.depth<=8/\RelV p.2 q.2.2) kvs xs /\
   ∃o es ep,h.get? a=some o/\o.ExactDict/\o.data=.dict es ep/\es.toList=xs.map (entryOfKey (fH P w))/\(xs.map (·.1)).Nodup
 |.set S n=>h.SetOf (intKind P w) a S n
 |.ins C dx fs=>H dx=some (.own a)/\fs.length<=1000/\dx≠a/\h.get? a=some (qg C dx) /\
   ∃mA,h.Ns1 dx mA/\(∀f,iN (fs.lookup f) (mA f))/\xP mA (fs.map (·.1))
 |.own _=>∃o,h.get? a=some o
 |.xd fs=>∃mA,h.Ns1 a mA/\∀f,iN (fs.lookup f) (mA f)
 |.rng lo hi=>∃t u v,h.get? a=some { cls:=.type "range",data:=.fields #[.int lo t,.int hi u,.int 1 v] }
 |.frz o u=>h.get? a=some o/\cL H h a u
 |.tbl ps=>h.get? a=some { cls:=.none,data:=.fields ps }
 |.met f x=>h.get? a=some (PySem.W.methodObj (.ref f) (.ref x))
 |.ext φ=>φ h/\(∃o,h.get? a=some o)/\∀h1 h2:Heap,φ h1->(∀o,h1.get? a=some o->h2.get? a=some o)->φ h2
def ki(H:Hp)(h:Heap):Prop:=∀a o,H a=some o->cL P w K H h a o
end
section
variable{P:bB}{w:World}{K:Za}{H H':Hp}{h h':Heap}{a:Addr}{o:HO}
theorem cL.lt(x:cL P w K H h a o):a<h.objs.size:=by
 cases o with
 |lst xs=>obtain⟨_,_,_,_,e⟩:=x;exact aM e
 |tup xs=>obtain⟨_,_,_,p⟩:=x;exact p.lt
 |dK kvs=>obtain⟨_,_,_,_,o,_,_,e,_⟩:=x;exact aM e
 |dT kvs=>obtain⟨_,_,_,_,o,_,_,e,_⟩:=x;exact aM e
 |set S n=>obtain⟨o,_,_,_,e,_⟩:=x;exact aM e
 |ins C dx fs=>obtain⟨_,_,_,e,_⟩:=x;exact aM e
 |own y=>obtain⟨_,e⟩:=x;exact aM e
 |xd fs=>obtain⟨_,⟨_,_,_,e,_⟩,_⟩:=x;exact aM e
 |rng lo hi=>obtain⟨_,_,_,e⟩:=x;exact aM e
 |frz ob u=>obtain⟨e,_⟩:=x;exact aM e
 |tbl ps=>exact aM (show h.get? a=some _ from x)
 |met f y=>exact aM (show h.get? a=some _ from x)
 |ext φ=>obtain⟨_,⟨_,e⟩,_⟩:=x;exact aM e
theorem Paired.mapP{α β:Type}{F G:α->β->Prop}:∀{l₁:List α}{l₂:List β},Paired F l₁ l₂->(∀a b,F a b->G a b)->Paired G l₁ l₂
 |_,_,.nil,_=>.nil
 |_,_,.cons r t,f=>.cons (f _ _ r) (Paired.mapP t f)
theorem cL.stay(x:cL P w K H h a o)(k:∀b u,(b=a∨H b=some (.own a))->h.get? b=some u->h'.get? b=some u)
  (ho:∀b,H b=some (.own a)->H' b=some (.own a)) (ht:∀b xs,H b=some (.tup xs)->H' b=some (.tup xs)):cL P w K H' h' a o:=by
 induction o with
 |lst xs=>obtain⟨z,its,n,r,e⟩:=x;exact⟨z,its,n,r,k _ _ (.inl rfl) e⟩
 |tup xs=>obtain⟨z,its,r,ob,e,c⟩:=x;exact⟨z,its,r,ob,k _ _ (.inl rfl) e,c⟩
 |dK kvs=>obtain⟨z,y,vs,r,ob,es,ep,e,c⟩:=x;exact⟨z,y,vs,r,ob,es,ep,k _ _ (.inl rfl) e,c⟩
 |dT kvs =>
  obtain⟨z,y,xs,r,ob,es,ep,e,c⟩:=x;exact⟨z,y,xs,Paired.mapP r fun p q z=>⟨z.1,zc.keeps ht 8 z.2.2.1 z.2.1,z.2.2⟩,ob,es,ep,k _ _ (.inl rfl) e,c⟩
 |set S n=>obtain⟨ob,es,ep,t,e,c⟩:=x;exact⟨ob,es,ep,t,k _ _ (.inl rfl) e,c⟩
 |ins C dx fs =>
  obtain⟨d,z,ne,e,mA,⟨od,es,ep,e2,c⟩,r⟩:=x;exact⟨ho _ d,z,ne,k _ _ (.inl rfl) e,mA,⟨od,es,ep,k _ _ (.inr d) e2,c⟩,r⟩
 |own y=>obtain⟨ob,e⟩:=x;exact⟨ob,k _ _ (.inl rfl) e⟩
 |xd fs=>obtain⟨mA,⟨od,es,ep,e,c⟩,r⟩:=x;exact⟨mA,⟨od,es,ep,k _ _ (.inl rfl) e,c⟩,r⟩
 |rng lo hi=>obtain⟨t,u,v,e⟩:=x;exact⟨t,u,v,k _ _ (.inl rfl) e⟩
 |frz ob u ih=>obtain⟨e,q⟩:=x;exact⟨k _ _ (.inl rfl) e,ih q⟩
 |tbl ps =>
  have e:h.get? a=some { cls:=.none,data:=.fields ps }:=x;show h'.get? a=some { cls:=.none,data:=.fields ps };exact k a _ (.inl rfl) e
 |met f y =>
  have e:h.get? a=some (PySem.W.methodObj (.ref f) (.ref y)):=x;show h'.get? a=some (PySem.W.methodObj (.ref f) (.ref y));exact k a _ (.inl rfl) e
 |ext φ=>obtain⟨p,⟨o,e⟩,st⟩:=x;exact⟨st _ _ p fun o q=>k _ _ (.inl rfl) q,⟨o,k _ _ (.inl rfl) e⟩,st⟩
theorem ki.lt(x:ki P w K H h)(e:H a=some o):a<h.objs.size:=(x a o e).lt
theorem ki.fresh(x:ki P w K H h)(e:h.objs.size<=a):H a=none:=by
 cases q:H a with
 |none=>rfl
 |some u=>exact absurd (fE (x.lt q) e) (qe _)
theorem ki.kept(x:ki P w K H h)(k:∀b u,h.get? b=some u->h'.get? b=some u):ki P w K H h':=fun a o e =>
 (x a o e).stay (fun b u _ q=>k b u q) (fun _ q=>q) fun _ _ q=>q
theorem ki.laid(x:ki P w K H h)(k:∀b u,h.get? b=some u->h'.get? b=some u)(hp:h.objs.size<=a)(new:cL P w K (upd H a o) h' a o):ki P w K (upd H a o) h':=fun b u e=>by
 have hn:=x.fresh hp;by_cases hb:b=a
 ·subst hb;rw[aa]at e;cases e;exact new
 ·rw[ai hb]at e;exact(x b u e).stay (fun c v _ q=>k c v q) (fun c q=>by rw[ai (ah q hn)];exact q) fun c xs q=>by rw[ai (ah q hn)];exact q
end
def Rd(H:Hp)(a:Addr)(u:HO):Prop:=H a=some u∨∃o,H a=some (.frz o u)
theorem Rd.ok{P:bB}{w:World}{K:Za}{H:Hp}{h:Heap}{a:Addr}{u:HO}(r:Rd H a u)(x:ki P w K H h):cL P w K H h a u:=by
 rcases r with r|⟨o,r⟩
 ·exact x a u r
 ·obtain⟨_,q⟩:=x a _ r;exact q
def JJ:Option HO->Prop
 |some (.lst _)=>True
 |some (.dK _)=>True
 |some (.dT _)=>True
 |some (.set _ _)=>True
 |some (.ins _ _ _)=>True
 |some (.ext _)=>True
 |_=>False
section
variable{P:bB}{w:World}{K:Za}{H:Hp}{h h':Heap}{x e:Addr}{o':HO}
theorem ki.write(ok:ki P w K H h)(mu:JJ (H x))(he:e=x∨H e=some (.own x))(k:∀b u,b≠e->h.get? b=some u->h'.get? b=some u)(heo:∃u,h'.get? e=some u)
  (new:cL P w K (upd H x o') h' x o'):ki P w K (upd H x o') h':=fun b u q=>by
 have nown:∀c y,H c=some (.own y)->c≠x:=fun c y r z=>by subst z;rw[r]at mu;exact mu
 have ntup:∀c xs,H c=some (.tup xs)->c≠x:=fun c xs r z=>by subst z;rw[r]at mu;exact mu
 by_cases hb:b=x
 ·subst hb;rw[aa]at q;cases q;exact new
 ·rw[ai hb]at q;by_cases hbe:b=e
  ·have q':H b=some (.own x):=by
    rcases he with z|z
    ·exact absurd (hbe.trans z) hb
    ·rw[hbe];exact z
   rw[q]at q';cases q';obtain⟨v,hv⟩:=heo;exact⟨v,by rw[hbe];exact hv⟩
  ·refine(ok b u q).stay (fun c v hc r=>k c v ?_ r) (fun c r=>by rw[ai (nown c b r)];exact r) fun c xs r=>by rw[ai (ntup c xs r)];exact r
   rcases hc with rfl|hc
   ·exact hbe
   ·rintro rfl;rcases he with z|z
    ·exact nown c b hc z
    ·rw[hc]at z;cases z;exact hb rfl
end
structure Un(fs ex:Ze)(H H':Hp)(h h':Heap):Prop where
 keep:∀b o,h.get? b=some o->H b=none->b∉fs->b∉ex->h'.get? b=some o
 slot:∀b o,h.get? b=some o->H b=none->b∈fs->b∉ex->∃sl,h'.get? b=some { o with slots:=sl }
 free:∀b o,h.get? b=some o->H b=none->b∉ex->H' b=none
 there:∀b o,h.get? b=some o->b∉ex->∃o',h'.get? b=some o'
 tups:∀b xs,H b=some (.tup xs)->H' b=some (.tup xs)
 frzs:∀b o u,H b=some (.frz o u)->H' b=some (.frz o u)
 tbls:∀b ps,H b=some (.tbl ps)->∃more,H' b=some (.tbl (ps++more))
section
variable{fs fs' ex ex':Ze}{H H1 H2:Hp}{h h1 h2 h':Heap}{a x e:Addr}{o:HO}
theorem Un.any(u:Un fs ex H H1 h h1){b:Addr}{ob:Obj}(q:h.get? b=some ob)(n:H b=none)(hx:b∉ex):∃sl,h1.get? b=some { ob with slots:=sl }:=by
 by_cases hb:b∈fs
 ·exact u.slot b ob q n hb hx
 ·exact⟨ob.slots,u.keep b ob q n hb hx⟩
theorem Un.kept(k:∀b u,h.get? b=some u->h'.get? b=some u):Un fs ex H H h h' :=
 ⟨fun b ob q _ _ _=>k b ob q,fun b ob q _ _ _=>⟨ob.slots,k b ob q⟩,fun _ _ _ n _=>n,fun b ob q _=>⟨ob,k b ob q⟩,fun _ _ q=>q,fun _ _ _ q=>q,fun _ ps q=>⟨#[],by rw[q];simp⟩⟩
theorem Un.refl:Un fs ex H H h h:=Un.kept fun _ _ q=>q
theorem Un.laid(k:∀b u,h.get? b=some u->h'.get? b=some u)(hp:h.objs.size<=a)(hn:H a=none):Un fs ex H (upd H a o) h h' where
 keep:=fun b u q _ _ _=>k b u q
 slot:=fun b u q _ _ _=>⟨u.slots,k b u q⟩
 free:=fun b u q n _=>by rw[ai (cx (fE (aM q) hp))];exact n
 there:=fun b u q _=>⟨u,k b u q⟩
 tups:=fun b xs q=>by rw[ai (ah q hn)];exact q
 frzs:=fun b u xs q=>by rw[ai (ah q hn)];exact q
 tbls:=fun b ps q=>⟨#[],by rw[ai (ah q hn),q];simp⟩
theorem Un.write(mu:JJ (H x))(he:e=x∨H e=some (.own x))(k:∀b u,b≠e->h.get? b=some u->h'.get? b=some u)(heo:∃u,h'.get? e=some u):Un fs ex H (upd H x o) h h':=by
 have hx:∀b,H b=none->b≠x:=fun b n z=>by subst z;rw[n]at mu;exact mu
 have hb:∀b,H b=none->b≠e:=fun b n z=>by
  subst z;rcases he with r|r
  ·exact hx b n r
  ·rw[n]at r;cases r
 have hm:∀b u,H b=some u->¬JJ (some u)->b≠x:=fun b u q nm z=>by subst z;rw[q]at mu;exact nm mu
 refine⟨fun b u q n _ _=>k b u (hb b n) q,fun b u q n _ _=>⟨u.slots,k b u (hb b n) q⟩,fun b u q n _=>by rw[ai (hx b n)];exact n,fun b u q _=>?_,
  fun b xs q=>by rw[ai (hm b _ q fun z=>z)];exact q,fun b u xs q=>by rw[ai (hm b _ q fun z=>z)];exact q,fun b ps q=>⟨#[],by rw[ai (hm b _ q fun z=>z),q];simp⟩⟩
 by_cases hbe:b=e
 ·subst hbe;exact heo
 ·exact⟨u,k b u hbe q⟩
end
def trk(h:Heap)(H:Hp):List Addr:=(ng h.objs.size).filter fun a=>(H a).isSome
def wN(h:Heap)(H:Hp):Heap:=PySem.W.hideAll h (trk h H)
theorem CI(h:Heap)(H:Hp):(wN h H).objs.size=h.objs.size:=PySem.W.hideAll_size _ _
theorem ES{h:Heap}{H:Hp}{b:Addr}{o:Obj}(e:h.get? b=some o)(n:H b=none):(wN h H).get? b=some o :=
 PySem.W.hideAll_get _ e fun hm=>by
  have q:(H b).isSome=true:=(ir.mp hm).2;rw[n]at q;simp at q
theorem Gk{h:Heap}{H:Hp}{b:Addr}{o:Obj}(e:(wN h H).get? b=some o):h.get? b=some o/\H b=none:=by
 have e':h.get? b=some o:=PySem.W.of_hideAll (trk h H) e;refine⟨e',?_⟩;cases q:H b with
 |none=>rfl
 |some x =>
  have hm:b∈trk h H:=ir.mpr ⟨List.mem_range.mpr (aM e'),by simp[q]⟩;have z:(wN h H).get? b=none:=PySem.W.hideAll_none (trk h H) hm;rw[z]at e;cases e
end L2
namespace L2
open PySem PySem.Spec PyProof.Rows
structure Mod(K:Za)(mg:Str->Option Value)(base:Heap):Prop where
 kin:K.In base
 glob:base.Ns bV mg
 blt:∃mb,base.Ns builtinsNs mb/\∀x:Str,x≠"__name__"->mb x=iX x
 nolimit:base.NoLimit
structure Cx where
 prog:bB
 w:World
 K:Za
 mg:Str->Option Value
 base:Heap
 A:Around
 N:List Str
 s₀:Shared
 H₀:Hp
 env:Env
 outer:List Env
 stack:List Env
 ex:List Addr
 fn:Str->Bool
 calm:Bool
 pn:List (Addr×Obj)
 xe:Value->Shared->Prop
def mi(l:List Env):List Addr:=l.filterMap (·.frame)
abbrev Cx.fs(X:Cx):List Addr:=mi X.outer
def Vis(sc:Scope)(x:Str):Prop:=sc.names.lookup x=some .local∨sc.names.lookup x=some .cell∨sc.names.lookup x=some .free
def Loc(sc:Scope)(x:Str):Prop:=sc.names.lookup x=some .local∨sc.names.lookup x=some .cell
def Look(env:Env)(h:Heap)(m:Str->Option Value)(x:Str)(u:Value):Prop :=
 (env.kindOf x=some .local/\m x=some u)∨((env.kindOf x=some .cell∨env.kindOf x=some .free)/\∃c,env.cells.lookup x=some c/\h.IsCell c (some u))
structure Cx.Ok(X:Cx):Prop where
 mod:Mod X.K X.mg X.base
 kind:X.env.scope.kind=.function
 glob:X.env.globals=bV
 blt:X.env.builtins=builtinsNs
 above:X.s₀.heap.objs.size<=X.env.locals
 inj:∀x y c,X.env.cells.lookup x=some c->X.env.cells.lookup y=some c->x=y
 has:∀x,(X.env.kindOf x=some .cell∨X.env.kindOf x=some .free)->∃c,X.env.cells.lookup x=some c
 cab:∀x c,X.fn x=true->X.env.cells.lookup x=some c->X.s₀.heap.objs.size<=c
 hd:X.calm=true->X.A.handled=none
 frames:X.A.frames=some X.stack
 stk:X.stack=X.outer∨(X.stack=X.env::X.outer/\X.env.frame=some X.env.locals)
 exf:∀b∈X.ex,b≠X.env.locals/\∀x c,X.env.cells.lookup x=some c->c≠b
 bs:∀b o,X.base.get? b=some o->X.s₀.heap.get? b=some o/\X.H₀ b=none
 bsz:X.base.objs.size<=X.s₀.heap.objs.size
 noex:∀b o,X.base.get? b=some o->b∉X.ex
 exfs:∀b∈X.ex,b∉X.fs
 funs:X.s₀.heap.FunFrames X.base X.outer
 frf:∀b∈X.fs,X.H₀ b=none
structure Inv(X:Cx)(J6:Zd)(σ:List (Option V))(H:Hp)(s:Shared):Prop where
 ok:X.Ok
 os:s.os=X.s₀.os
 bare:ma s.gens
 base:Un X.fs X.ex X.H₀ H X.s₀.heap s.heap
 loc:∃m,s.heap.Ns X.env.locals m/\∀(i:Nat) (x:Str) (v:V),X.N[i]?=some x->σ[i]?=some (some v)->Vis X.env.scope x->∃u,RelV v u/\Look X.env s.heap m x u
 cell:∀x c,X.env.cells.lookup x=some c->∃v,s.heap.IsCell c v
 free:H X.env.locals=none
 freeC:∀x c,X.env.cells.lookup x=some c->H c=none
 pin:∀p∈X.pn++J6,s.heap.get? p.1=some p.2/\H p.1=none/\p.1≠X.env.locals/\p.1∉X.fs/\∀v,p.2.data≠.cell v
 hok:ki X.prog X.w X.K H s.heap
 len:σ.length=X.N.length
section
variable{X:Cx}{J6:Zd}{σ:List (Option V)}{H H':Hp}{s:Shared}{h':Heap}
theorem Cx.Ok.nofr(ok:X.Ok){b:Addr}{o:Obj}(e:X.base.get? b=some o):b∉X.fs:=fun hb=>by
 have:=(ok.funs.mem hb).1;rw[e]at this;cases this
theorem Inv.bs(I:Inv X J6 σ H s):∀b o,X.base.get? b=some o->s.heap.get? b=some o/\H b=none:=fun b o e =>
 ⟨I.base.keep b o (I.ok.bs b o e).1 (I.ok.bs b o e).2 (I.ok.nofr e) (I.ok.noex b o e),I.base.free b o (I.ok.bs b o e).1 (I.ok.bs b o e).2 (I.ok.noex b o e)⟩
theorem Inv.bk(I:Inv X J6 σ H s):∀b o,X.base.get? b=some o->s.heap.get? b=some o:=fun b o e=>(I.bs b o e).1
theorem Inv.mod(I:Inv X J6 σ H s):Mod X.K X.mg X.base:=I.ok.mod
theorem Inv.kIn(I:Inv X J6 σ H s):X.K.In s.heap:=I.ok.mod.kin.keeps I.bk
theorem Inv.fr(I:Inv X J6 σ H s):∃m,Fr X.base X.env.locals s.heap m :=
 let⟨m,hn,_⟩:=I.loc
 ⟨m,hn,I.bk,bj I.ok.bsz I.ok.above⟩
theorem Inv.lt(I:Inv X J6 σ H s):X.env.locals<s.heap.objs.size:=let⟨_,hn,_⟩:=I.loc;hn.lt
theorem Inv.sz(I:Inv X J6 σ H s):X.s₀.heap.objs.size<=s.heap.objs.size:=bj I.ok.above (ei I.lt)
theorem Inv.nofs(I:Inv X J6 σ H s){a:Addr}(h:s.heap.objs.size<=a):a∉X.fs:=fun hb=>by
 obtain⟨_,o,ho,_⟩:=I.ok.funs.mem hb;exact absurd (fE (aM ho) (bj I.sz h)) (qe _)
theorem Inv.cne(I:Inv X J6 σ H s):∀x c,X.env.cells.lookup x=some c->c≠X.env.locals:=fun x c e z=>by
 obtain⟨v,o,ho,hd⟩:=I.cell x c e;obtain⟨m,⟨o',es,ep,ho',hd',_⟩,_⟩:=I.loc;rw[z,ho']at ho;cases ho;rw[hd']at hd;cases hd
theorem Inv.funs(I:Inv X J6 σ H s):s.heap.FunFrames X.base X.outer:=by
 have all:∀(l:List Env),(∀b∈mi l,b∈X.fs)->X.s₀.heap.FunFrames X.base l->s.heap.FunFrames X.base l:=by
  intro l
  induction l with
  |nil=>intro _ _;trivial
  |cons env r ih =>
   intro hs hl;obtain⟨hk,⟨L,o,hf,hn,ho,hd⟩,hr⟩:=hl;have hL:L∈X.fs:=hs L (by unfold mi;rw[nc,hf];exact cp);obtain⟨sl,e⟩:=I.base.slot L o ho (I.ok.frf L hL) hL fun z=>I.ok.exfs L z hL;exact⟨hk,⟨L,_,hf,hn,e,hd⟩,ih (fun b hb=>hs b (by unfold mi;rw[nc,hf];exact cj _ hb)) hr⟩
 exact all X.outer (fun _ hb=>hb) I.ok.funs
theorem Inv.stack(I:Inv X J6 σ H s):s.heap.FunFrames X.base X.stack:=by
 rcases I.ok.stk with e|⟨e,hf⟩
 ·rw[e];exact I.funs
 ·rw[e];obtain⟨m,hn,_⟩:=I.loc;refine .cons (by rw[I.ok.kind];decide) hf hn ?_ I.funs;exact Heap.get?_none_of_le (bj I.ok.bsz I.ok.above)
theorem Inv.stkSub(I:Inv X J6 σ H s):∀b∈mi X.stack,b∈X.env.locals::X.fs:=fun b hb=>by
 rcases I.ok.stk with e|⟨e,hf⟩
 ·rw[e]at hb;exact cj _ hb
 ·rw[e]at hb;unfold mi at hb;rw[nc,hf]at hb;exact hb
theorem Inv.stkFree(I:Inv X J6 σ H s):∀b∈mi X.stack,H b=none:=fun b hb=>by
 rcases bw.mp (I.stkSub b hb)with e|hb
 ·rw[e];exact I.free
 ·obtain⟨_,o,ho,_⟩:=I.ok.funs.mem hb;exact I.base.free b o ho (I.ok.frf b hb) fun z=>I.ok.exfs b z hb
theorem Inv.step{g':Array GenState}{t':Nat}{d':Drawn}{ch:Ze}(I:Inv X J6 σ H s)
  (hch:∀b∈ch,(b∈X.ex∨X.s₀.heap.objs.size<=b)/\b≠X.env.locals/\(∀x c,X.env.cells.lookup x=some c->c≠b)/\∀p∈X.pn++J6,p.1≠b)
  (keep:∀b o,b≠X.env.locals->b∉X.fs->b∉ch->s.heap.get? b=some o->H b=none->h'.get? b=some o)
  (slot:∀b o,b≠X.env.locals->b∈X.fs->b∉ch->s.heap.get? b=some o->H b=none->∃sl,h'.get? b=some { o with slots:=sl }) (free:∀b o,b∉ch->s.heap.get? b=some o->H b=none->H' b=none)
  (there:∀b o,b∉ch->s.heap.get? b=some o->∃o',h'.get? b=some o')
  (tups:∀b xs,H b=some (.tup xs)->H' b=some (.tup xs)) (frzs:∀b o u,H b=some (.frz o u)->H' b=some (.frz o u)) (tbls:∀b ps,H b=some (.tbl ps)->∃more,H' b=some (.tbl (ps++more)))
  (ns:∀m,s.heap.Ns X.env.locals m->h'.Ns X.env.locals m) (hok:ki X.prog X.w X.K H' h') (hg:ma g') :
  Inv X J6 σ H' { s with heap:=h',gens:=g',drawn:=d',toks:=t' }:=by
 have neL:∀b o,X.s₀.heap.get? b=some o->b≠X.env.locals:=fun b o e=>cx (fE (aM e) I.ok.above);have neC:∀b o,X.s₀.heap.get? b=some o->b∉X.ex->b∉ch:=fun b o e hx hb=>by
  rcases(hch b hb).1 with z|z
  ·exact hx z
  ·exact absurd (fE (aM e) z) (qe _)
 have cellK:∀x c,X.env.cells.lookup x=some c->∀v,s.heap.IsCell c v->h'.IsCell c v:=fun x c e v ⟨o,ho,hd⟩=>by
  have nch:c∉ch:=fun z=>(hch c z).2.2.1 x c e rfl;by_cases hc:c∈X.fs
  ·obtain⟨sl,q⟩:=slot c o (I.cne x c e) hc nch ho (I.freeC x c e);exact⟨_,q,hd⟩
  ·exact⟨o,keep c o (I.cne x c e) hc nch ho (I.freeC x c e),hd⟩
 refine⟨I.ok,I.os,hg,⟨fun b o e n hb hx=>?_,fun b o e n hb hx=>?_,fun b o e n hx=>?_,fun b o e hx=>?_,fun b xs e=>tups b xs (I.base.tups b xs e),fun b o xs e=>frzs b o xs (I.base.frzs b o xs e),fun b ps e=>?_⟩,?_,fun x c e=>?_,?_,fun x c e=>?_,fun p hp=>?_,hok,I.len⟩
 ·exact keep b o (neL b o e) hb (neC b o e hx) (I.base.keep b o e n hb hx) (I.base.free b o e n hx)
 ·obtain⟨sl,e1⟩:=I.base.slot b o e n hb hx;obtain⟨sl',e2⟩:=slot b _ (neL b o e) hb (neC b o e hx) e1 (I.base.free b o e n hx);exact⟨sl',e2⟩
 ·obtain⟨o',e1⟩:=I.base.there b o e hx;exact free b o' (neC b o e hx) e1 (I.base.free b o e n hx)
 ·obtain⟨o',e1⟩:=I.base.there b o e hx;exact there b o' (neC b o e hx) e1
 ·obtain⟨m1,e1⟩:=I.base.tbls b ps e;obtain⟨m2,e2⟩:=tbls b _ e1;exact⟨m1++m2,by rw[e2,Array.append_assoc]⟩
 ·obtain⟨m,hn,hl⟩:=I.loc;refine⟨m,ns m hn,fun i x v e1 e2 e3=>?_⟩;obtain⟨u,r,l⟩:=hl i x v e1 e2 e3;refine⟨u,r,?_⟩;rcases l with l|⟨k,c,e,z⟩
  ·exact .inl l
  ·exact .inr ⟨k,c,e,cellK x c e _ z⟩
 ·obtain⟨v,z⟩:=I.cell x c e;exact⟨v,cellK x c e v z⟩
 ·obtain⟨m,⟨o,_,_,ho,_⟩,_⟩:=I.loc;exact free _ o (fun z=>(hch _ z).2.1 rfl) ho I.free
 ·obtain⟨v,o,ho,hd⟩:=I.cell x c e;exact free c o (fun z=>(hch c z).2.2.1 x c e rfl) ho (I.freeC x c e)
 ·obtain⟨e,n,ne,nf,d⟩:=I.pin p hp;have nch:p.1∉ch:=fun z=>(hch p.1 z).2.2.2 p hp rfl;exact⟨keep p.1 p.2 ne nf nch e n,free p.1 p.2 nch e n,ne,nf,d⟩
theorem Inv.un{t':Nat}(I:Inv X J6 σ H s)(u:Un X.fs [] H H' s.heap h')(hok:ki X.prog X.w X.K H' h'):Inv X J6 σ H' { s with heap:=h',toks:=t' }:=by
 obtain⟨m,⟨o,es,ep,ho,r⟩,_⟩:=id I.loc;obtain⟨sl,hL⟩:=u.any ho I.free (by simp);exact I.step (g':=s.gens) (d':=s.drawn) (ch:=[]) (fun _ z=>nomatch z) (fun b o _ hb _ e n=>u.keep b o e n hb (by simp)) (fun b o _ hb _ e n=>u.slot b o e n hb (by simp)) (fun b o _ e n=>u.free b o e n (by simp)) (fun b o _ e=>u.there b o e (by simp)) u.tups u.frzs u.tbls (fun m' hm=>by
  obtain⟨o',es',ep',ho',r'⟩:=hm;rw[ho]at ho';cases ho';exact⟨_,es',ep',hL,r'⟩) hok I.bare
theorem Inv.call{g':Array GenState}{t':Nat}{d':Drawn}{ch:Ze}(I:Inv X J6 σ H s)(u:Un (mi X.stack) ch H H' s.heap h')(hok:ki X.prog X.w X.K H' h')(hg:ma g')
  (hch:∀b∈ch,(b∈X.ex∨X.s₀.heap.objs.size<=b)/\b≠X.env.locals/\(∀x c,X.env.cells.lookup x=some c->c≠b)/\∀p∈X.pn++J6,p.1≠b) :
  Inv X J6 σ H' { s with heap:=h',gens:=g',drawn:=d',toks:=t' }:=by
 obtain⟨m,⟨o,es,ep,ho,r⟩,_⟩:=id I.loc;obtain⟨sl,hL⟩:=u.any ho I.free fun z=>(hch _ z).2.1 rfl;exact I.step (ch:=ch) hch (fun b o hL hb hc e n=>u.keep b o e n (fun z=>(bw.mp (I.stkSub b z)).elim hL hb) hc) (fun b o _ _ hc e n=>u.any e n hc) (fun b o hc e n=>u.free b o e n hc) (fun b o hc e=>u.there b o e hc) u.tups u.frzs u.tbls (fun m' hm=>by
  obtain⟨o',es',ep',ho',r'⟩:=hm;rw[ho]at ho';cases ho';exact⟨_,es',ep',hL,r'⟩) hok hg
theorem Inv.turned{t':Nat}{it:Addr}(I:Inv X J6 σ H s)(k:∀b o,b≠it->s.heap.get? b=some o->h'.get? b=some o)(hn:H it=none)(hL:it≠X.env.locals)
  (h1:it∈X.ex∨X.s₀.heap.objs.size<=it) (h2:∀x c,X.env.cells.lookup x=some c->c≠it) (h3:∀p∈X.pn++J6,p.1≠it):Inv X J6 σ H { s with heap:=h',toks:=t' }:=by
 have nit:∀b u,H b=some u->b≠it:=fun b u e z=>by rw[z,hn]at e;cases e
 refine I.step (g':=s.gens) (d':=s.drawn) (ch:=[it]) (fun b hb=>?_) (fun b o _ _ hc e _=>k b o (fun z=>hc (by simp[z])) e) (fun b o _ _ hc e _=>⟨o.slots,k b o (fun z=>hc (by simp[z])) e⟩) (fun _ _ _ _ n=>n)
  (fun b o hc e=>⟨o,k b o (fun z=>hc (by simp[z])) e⟩) (fun _ _ e=>e) (fun _ _ _ e=>e) (fun b ps e=>⟨#[],by rw[e];simp⟩) (fun m hm=>?_) (fun b u e=>?_) I.bare
 ·have e:b=it:=by simpa using hb
  subst e;exact⟨h1,hL,h2,h3⟩
 ·obtain⟨o,es,ep,ho,r⟩:=hm;exact⟨o,es,ep,k _ o (cW hL) ho,r⟩
 ·refine(I.hok b u e).stay (fun c v hc q=>k c v ?_ q) (fun _ q=>q) fun _ _ q=>q;rcases hc with z|z
  ·rw[z];exact nit b u e
  ·exact nit c _ z
theorem Inv.tok(I:Inv X J6 σ H s)(t:Nat):Inv X J6 σ H { s with toks:=t }:=I.un (h':=s.heap) (t':=t) Un.refl I.hok
theorem Inv.kept{t':Nat}(I:Inv X J6 σ H s)(k:∀b u,s.heap.get? b=some u->h'.get? b=some u):Inv X J6 σ H { s with heap:=h',toks:=t' }:=I.un (Un.kept k) (I.hok.kept k)
theorem Inv.laid{a:Addr}{o:HO}{t':Nat}(I:Inv X J6 σ H s)(k:∀b u,s.heap.get? b=some u->h'.get? b=some u)(hp:s.heap.objs.size<=a)(new:cL X.prog X.w X.K (upd H a o) h' a o):
  Inv X J6 σ (upd H a o) { s with heap:=h',toks:=t' }:=I.un (Un.laid k hp (I.hok.fresh hp)) (I.hok.laid k hp new)
theorem Inv.write{x e:Addr}{o:HO}{t':Nat}(I:Inv X J6 σ H s)(mu:JJ (H x))(he:e=x∨H e=some (.own x))(k:∀b u,b≠e->s.heap.get? b=some u->h'.get? b=some u)(heo:∃u,h'.get? e=some u)
  (new:cL X.prog X.w X.K (upd H x o) h' x o):Inv X J6 σ (upd H x o) { s with heap:=h',toks:=t' }:=I.un (Un.write mu he k heo) (I.hok.write mu he k heo new)
theorem Inv.weak{σ':List (Option V)}(I:Inv X J6 σ H s)(hl:σ'.length=σ.length)(w:∀(i:Nat) v,σ'[i]?=some (some v)->σ[i]?=some (some v)):Inv X J6 σ' H s :=
 ⟨I.ok,I.os,I.bare,I.base,let⟨m,hn,hl'⟩:=I.loc;⟨m,hn,fun i x v e1 e2 e3=>hl' i x v e1 (w i v e2) e3⟩,I.cell,I.free,I.freeC,I.pin,I.hok,hl.trans I.len⟩
theorem Inv.pins_of{pins':Zd}(I:Inv X J6 σ H s)(h:∀p∈pins',s.heap.get? p.1=some p.2/\H p.1=none/\p.1≠X.env.locals/\p.1∉X.fs/\∀v,p.2.data≠.cell v):Inv X pins' σ H s :=
 ⟨I.ok,I.os,I.bare,I.base,I.loc,I.cell,I.free,I.freeC,fun p hp=>(bJ.mp hp).elim (fun z=>I.pin p (cJ _ z)) (h p),I.hok,I.len⟩
theorem sU{N:Zb}(hN:N.Nodup){i j:Nat}{x:Str}(a:N[i]?=some x)(b:N[j]?=some x):i=j:=by
 obtain⟨h1,e1⟩:=db.mp a;obtain⟨h2,e2⟩:=db.mp b;exact(List.getElem_inj hN).mp (e1.trans e2.symm)
theorem uN{M:Model}{A:Around}{E:Zc}{i:Nat}{x:Str}{v:V}{u:Value}{Q:Unit->Shared->Prop}(I:Inv X J6 σ H s)(hN:X.N.Nodup)(hi:X.N[i]?=some x)(hx:Loc X.env.scope x)(r:RelV v u)
  (h:∀s',Inv X J6 (σ.set i (some v)) H s'->(∃a,js a s.heap s'.heap/\(a=X.env.locals∨X.env.cells.lookup x=some a))->Q () s') (hf:X.fn x=true∨X.env.scope.names.lookup x=some .local:=by first|exact .inl rfl|exact .inr rfl|assumption):wpAny M A (storeName X.env x u) Q E s:=by
 obtain⟨m,hn,hl⟩:=id I.loc;have hcls:(X.env.scope.kind==.class || (X.env.scope.kind==.module && X.env.locals != X.env.globals))=false:=by rw[I.ok.kind];rfl
 have hiσ:i<σ.length:=by rw[I.len];exact(db.mp hi).1
 have cne:=I.cne;have tracked:∀{a:Addr}{h':Heap},(∃o,s.heap.get? a=some o/\H a=none)->js a s.heap h'->ki X.prog X.w X.K H h':=fun{a h'} ha hs b ob e=>by
  obtain⟨_,_,hfree⟩:=ha;refine(I.hok b ob e).stay (fun c w' hc q=>(hs.2 c ?_).trans q) (fun _ q=>q) fun _ _ q=>q;rintro rfl;rcases hc with rfl|hc
  ·rw[hfree]at e;cases e
  ·rw[hfree]at hc;cases hc
 rcases hx with hk|hk
 ·refine wpAny_storeName_local hk hn (fun h' hn' hs=>?_) hcls;obtain⟨oL,_,_,hoL,_⟩:=id hn;refine h _ ⟨I.ok,I.os,I.bare,⟨fun b o e n hb hx=>?_,fun b o e n hb hx=>?_,I.base.free,fun b o e hx=>?_,I.base.tups,I.base.frzs,I.base.tbls⟩,⟨_,hn',fun j y v' e1 e2 e3=>?_⟩,fun y c e=>?_,I.free,I.freeC,fun p hp=>?_,tracked ⟨oL,hoL,I.free⟩ hs,by simpa using I.len⟩ ⟨_,hs,.inl rfl⟩
  ·exact(hs.2 b (cx (fE (aM e) I.ok.above))).trans (I.base.keep b o e n hb hx)
  ·obtain⟨sl,e1⟩:=I.base.slot b o e n hb hx;exact⟨sl,(hs.2 b (cx (fE (aM e) I.ok.above))).trans e1⟩
  ·obtain⟨o',e1⟩:=I.base.there b o e hx;exact⟨o',(hs.2 b (cx (fE (aM e) I.ok.above))).trans e1⟩
  ·by_cases hj:j=i
   ·subst hj;rw[hi]at e1;cases e1;rw[List.getElem?_set_self hiσ]at e2;cases e2;exact⟨u,r,.inl ⟨hk,by simp⟩⟩
   ·rw[AX (cW hj)]at e2;obtain⟨u',r',q⟩:=hl j y v' e1 e2 e3;refine⟨u',r',?_⟩;rcases q with⟨k,e⟩|⟨k,c,e,z⟩
    ·refine .inl ⟨k,?_⟩;have:y≠x:=fun e=>hj (sU hN e1 (e▸hi));simp[this,e]
    ·exact .inr ⟨k,c,e,z.sameBut hs (cne y c e)⟩
  ·obtain⟨w',z⟩:=I.cell y c e;exact⟨w',z.sameBut hs (cne y c e)⟩
  ·obtain⟨e,n,ne,nf,d⟩:=I.pin p hp;exact⟨(hs.2 p.1 ne).trans e,n,ne,nf,d⟩
 ·have hfn:X.fn x=true:=by
   rcases hf with z|z
   ·exact z
   ·rw[z]at hk;cases hk
  obtain⟨c,hc⟩:=I.ok.has x (.inl hk);obtain⟨w',z⟩:=I.cell x c hc;refine wpAny_storeName_cell I.ok.kind hk hc z (fun h' hc' hs=>?_);obtain⟨oc,hoc,hocd⟩:=id z;refine h { s with heap:=h' } ⟨I.ok,I.os,I.bare,⟨fun b o e n hb hx=>?_,fun b o e n hb hx=>?_,I.base.free,fun b o e hx=>?_,I.base.tups,I.base.frzs,I.base.tbls⟩,⟨m,hn.sameBut hs (cW (cne x c hc)),fun j y v' e1 e2 e3=>?_⟩,fun y c' e=>?_,I.free,I.freeC,fun p hp=>?_,tracked ⟨oc,hoc,I.freeC x c hc⟩ hs,by simpa using I.len⟩ ⟨c,hs,.inr hc⟩
  ·exact(hs.2 b (cx (fE (aM e) (I.ok.cab x c hfn hc)))).trans (I.base.keep b o e n hb hx)
  ·obtain⟨sl,e1⟩:=I.base.slot b o e n hb hx;exact⟨sl,(hs.2 b (cx (fE (aM e) (I.ok.cab x c hfn hc)))).trans e1⟩
  ·obtain⟨o',e1⟩:=I.base.there b o e hx;exact⟨o',(hs.2 b (cx (fE (aM e) (I.ok.cab x c hfn hc)))).trans e1⟩
  ·by_cases hj:j=i
   ·subst hj;rw[hi]at e1;cases e1;rw[List.getElem?_set_self hiσ]at e2;cases e2;exact⟨u,r,.inr ⟨.inl hk,c,hc,hc'⟩⟩
   ·rw[AX (cW hj)]at e2;obtain⟨u',r',q⟩:=hl j y v' e1 e2 e3;refine⟨u',r',?_⟩;rcases q with q|⟨k,c',e,z'⟩
    ·exact .inl q
    ·refine .inr ⟨k,c',e,z'.sameBut hs ?_⟩;rintro rfl;exact hj (sU hN e1 (I.ok.inj _ _ _ e hc▸hi))
  ·by_cases hcc:c'=c
   ·subst hcc;exact⟨_,hc'⟩
   ·obtain⟨w2,z2⟩:=I.cell y c' e;exact⟨w2,z2.sameBut hs hcc⟩
  ·obtain⟨e,n,ne,nf,d⟩:=I.pin p hp;refine⟨(hs.2 p.1 ?_).trans e,n,ne,nf,d⟩;intro q;rw[q,hoc]at e;have q':oc=p.2:=dX e;exact d w' (by rw[<-q'];exact hocd)
theorem nC{M:Model}{A:Around}{E:Zc}{i:Nat}{x:Str}{v:V}{u:Value}{Q:Unit->Shared->Prop}(I:Inv X J6 σ H s)(hN:X.N.Nodup)(hi:X.N[i]?=some x)(hx:Loc X.env.scope x)(r:RelV v u)
  (h:∀s',Inv X J6 (σ.set i (some v)) H s'->Q () s') (hf:X.fn x=true∨X.env.scope.names.lookup x=some .local:=by first|exact .inl rfl|exact .inr rfl|assumption):wpAny M A (storeName X.env x u) Q E s :=
 uN I hN hi hx r (fun s' I' _=>h s' I') hf
theorem Inv.call'{s':Shared}{ch:Ze}(I:Inv X J6 σ H s)(ho:s'.os=s.os)(u:Un (mi X.stack) ch H H' s.heap s'.heap)(hok:ki X.prog X.w X.K H' s'.heap)(hg:ma s'.gens)
  (hch:∀b∈ch,(b∈X.ex∨X.s₀.heap.objs.size<=b)/\b≠X.env.locals/\(∀x c,X.env.cells.lookup x=some c->c≠b)/\∀p∈X.pn++J6,p.1≠b):Inv X J6 σ H' s':=by
 obtain⟨h',g',d',t',o'⟩:=s';have e:o'=s.os:=ho;subst e;exact I.call (g':=g') (t':=t') (d':=d') u hok hg hch
end
abbrev XK:=Value->Option Addr->Hp->Prop
abbrev St:=List (Option V)
abbrev VK:=V->Hp->Prop
abbrev TE:=St->Hp->VK->Prop
abbrev TT:=St->Hp->(Bool->Hp->Prop)->Prop
abbrev TA:=St->Hp->(List V->Hp->Prop)->Prop
structure il where
 nx:St->Hp->Prop
 rt:VK
 bk:St->Hp->Prop:=fun _ _=>False
 ct:St->Hp->Prop:=fun _ _=>False
abbrev bT(Q:VK):il:={ nx:=fun _ H=>Q .non H,rt:=Q }
abbrev TS:=il->St->Hp->Prop
def EP(X:Cx)(J6:Zd)(σ:St)(Q:VK)(u:Value)(s':Shared):Prop:=∃v H',Inv X J6 σ H' s'/\RelV v u/\Q v H'
def TP(X:Cx)(J6:Zd)(σ:St)(Q:Bool->Hp->Prop)(b:Bool)(s':Shared):Prop:=∃H',Inv X J6 σ H' s'/\Q b H'
def AP(X:Cx)(J6:Zd)(σ:St)(Q:List V->Hp->Prop)(us:Zf)(s':Shared):Prop:=∃vs H',Inv X J6 σ H' s'/\bg vs us/\Q vs H'
def SP(X:Cx)(J6:Zd)(D:il)(f:Flow)(s':Shared):Prop :=
 match f with
 |.next=>∃σ' H',Inv X J6 σ' H' s'/\D.nx σ' H'
 |.brk=>∃σ' H',Inv X J6 σ' H' s'/\D.bk σ' H'
 |.cont=>∃σ' H',Inv X J6 σ' H' s'/\D.ct σ' H'
 |.ret u=>∃v σ' H',Inv X J6 σ' H' s'/\RelV v u/\D.rt v H'
def PE(X:Cx)(e:Expr)(t:TE):Prop :=
 ∀(J6:Zd) (s:Shared) (σ:St) (H:Hp) (Q:VK),Inv X J6 σ H s->t σ H Q->wpAny (model X.prog X.w) X.A (eval e X.env) (EP X J6 σ Q) X.xe s
def PT(X:Cx)(e:Expr)(t:TT):Prop :=
 ∀(J6:Zd) (s:Shared) (σ:St) (H:Hp) (Q:Bool->Hp->Prop),Inv X J6 σ H s->t σ H Q->wpAny (model X.prog X.w) X.A (isTrue e X.env (eval e X.env)) (TP X J6 σ Q) X.xe s
def PW(X:Cx)(e:Expr)(t:TT):Prop :=
 ∀(whole:Sem Value) (J6:Zd) (s:Shared) (σ:St) (H:Hp) (Q:Bool->Hp->Prop),Inv X J6 σ H s->t σ H Q->wpAny (model X.prog X.w) X.A (isTrue e X.env whole) (TP X J6 σ Q) X.xe s
theorem PW.pt{X:Cx}{e:Expr}{t:TT}(h:PW X e t):PT X e t:=h _
def PA(X:Cx)(es:List Expr)(t:TA):Prop :=
 ∀(pos:Pos) (J6:Zd) (s:Shared) (σ:St) (H:Hp) (Q:List V->Hp->Prop),Inv X J6 σ H s->t σ H Q->wpAny (model X.prog X.w) X.A (spliced (backTo pos (aB es X.env))) (AP X J6 σ Q) X.xe s
def PS(X:Cx)(st:Stmt)(t:TS):Prop :=
 ∀(J6:Zd) (s:Shared) (σ:St) (H:Hp) (D:il),Inv X J6 σ H s->t D σ H->wpAny (model X.prog X.w) X.A (exec st X.env) (SP X J6 D) X.xe s
def xy(X:Cx)(st:List Stmt)(t:TS):Prop :=
 ∀(J6:Zd) (s:Shared) (σ:St) (H:Hp) (D:il),Inv X J6 σ H s->t D σ H->wpAny (model X.prog X.w) X.A (execs st X.env) (SP X J6 D) X.xe s
theorem cM{α:Type}{t:Sem α}{Q Q':α->Shared->Prop}{M:Model}{A:Around}{E:Zc}{s:Shared}(h:wpAny M A t Q E s)(hQ:∀a s,Q a s->Q' a s):wpAny M A t Q' E s:=bU h hQ fun _ _ x=>x
end L2
namespace L2
open PySem PySem.Spec PyProof.Rows
section
variable{X:Cx}
def lW(i:Nat):TE:=fun σ H Q=>∃v,σ[i]?=some (some v)/\Q v H
abbrev V0:TE:=lW 0
abbrev V1:TE:=lW 1
abbrev V2:TE:=lW 2
abbrev V3:TE:=lW 3
abbrev V4:TE:=lW 4
abbrev V5:TE:=lW 5
abbrev V6:TE:=lW 6
abbrev V7:TE:=lW 7
abbrev V8:TE:=lW 8
abbrev V9:TE:=lW 9
abbrev IY:TE:=lW 10
abbrev Ka:TE:=lW 11
abbrev J_:TE:=lW 12
def tC(v:V):TE:=fun _ H Q=>Q v H
theorem Ic{i:Nat}{x:Str}{pos:Pos}(hN:X.N[i]?=some x)(hv:Vis X.env.scope x)(hd:(x==("__debug__":Str))=false:=by decide)(hcd:(x==("__classdict__":Str))=false:=by decide):PE X (.Name x pos) (lW i):=by
 intro J6 s σ H Q I h;obtain⟨v,e,h⟩:=h;obtain⟨m,hn,hl⟩:=I.loc;obtain⟨u,r,l⟩:=hl i x v hN e hv;have fin:EP X J6 σ Q u s:=⟨v,H,I,r,h⟩;rcases l with⟨hk,hm⟩|⟨hk,c,hc,hcell⟩
 ·exact wpAny_Name (wpAny_loadName_local I.ok.kind hk hn hm fin) hd
 ·rcases hk with hk|hk
  ·exact wpAny_Name (wpAny_loadName_cell I.ok.kind hk hc hcell fin) hd
  ·exact wpAny_Name (wpAny_loadName_free I.ok.kind hk hc hcell fin hcd) hd
theorem af{i j pos}:PE X (.Constant (.int i) j pos) (tC (.int i)):=fun _ _ _ H _ I h=>wpAny_Constant_int ⟨.int i,H,I.tok _,⟨_,rfl⟩,h⟩
theorem j_{b j pos}:PE X (.Constant (.bool b) j pos) (tC (.bl b)):=fun _ _ _ H _ I h=>Constant_bool ⟨.bl b,H,I,rfl,h⟩
theorem kZ{j pos}:PE X (.Constant .none j pos) (tC .non):=fun _ _ _ H _ I h=>Constant_none ⟨.non,H,I,rfl,h⟩
theorem aD{x j pos}:PE X (.Constant (.str x) j pos) (tC (.str x)):=fun _ _ _ H _ I h=>Calls.Constant_str ⟨.str x,H,I.tok _,⟨_,rfl⟩,h⟩
def Gl(X:Cx)(x:Str):Prop:=X.env.kindOf x=some .globalImplicit
theorem ib{E:Zc}{J6:Zd}{s:Shared}{σ:St}{H:Hp}{x:Str}{u:Value}{pos:Pos}{Q:Zc}(I:Inv X J6 σ H s)(hg:Gl X x)(hm:X.mg x=some u)(h:Q u s)
  (hd:(x==("__debug__":Str))=false:=by decide):wpAny (model X.prog X.w) X.A (eval (.Name x pos) X.env) Q E s :=
 Calls.Name_function_global I.ok.kind hg (Calls.loadGlobal_global (by rw[I.ok.glob];exact I.mod.glob.keeps I.bk) hm h) hd
theorem pG{E:Zc}{J6:Zd}{s:Shared}{σ:St}{H:Hp}{x:Str}{u:Value}{pos:Pos}{Q:Zc}(I:Inv X J6 σ H s)(hg:Gl X x)(hm:X.mg x=none)(hv:iX x=some u)(h:Q u s)
  (hn:x≠"__name__":=by decide) (hd:(x==("__debug__":Str))=false:=by decide):wpAny (model X.prog X.w) X.A (eval (.Name x pos) X.env) Q E s:=by
 obtain⟨mb,h1,h2⟩:=I.mod.blt;exact Calls.Name_function_global I.ok.kind hg (Calls.loadGlobal_builtin (by rw[I.ok.glob];exact I.mod.glob.keeps I.bk) hm (by rw[I.ok.blt];exact h1.keeps I.bk) ((h2 x hn).trans hv) h) hd
theorem Gg{x:Str}{v:V}{u:Value}{pos:Pos}(hg:Gl X x)(hm:X.mg x=some u)(r:RelV v u)(hd:(x==("__debug__":Str))=false:=by decide):PE X (.Name x pos) (tC v) :=
 fun _ _ _ H _ I h=>ib I hg hm ⟨v,H,I,r,h⟩ hd
theorem nU{x:Str}{v:V}{u:Value}{pos:Pos}(hg:Gl X x)(hm:X.mg x=none)(hv:iX x=some u)(r:RelV v u)(hn:x≠"__name__":=by decide)(hd:(x==("__debug__":Str))=false:=by decide):PE X (.Name x pos) (tC v) :=
 fun _ _ _ H _ I h=>pG I hg hm hv ⟨v,H,I,r,h⟩ hn hd
variable{a b:Expr}{ta tb:TE}{pos:Pos}
def PC(X:Cx)(op:CmpOp)(a b:Expr)(t:TE):Prop :=
 ∀(J6:Zd) (s:Shared) (σ:St) (H:Hp) (Q:VK),Inv X J6 σ H s->t σ H Q ->
  wpAny (model X.prog X.w) X.A (eval a X.env) (fun v s₁=>wpAny (model X.prog X.w) X.A (eval b X.env) (fun u s₂=>wpAny (model X.prog X.w) X.A (eB op v u) (EP X J6 σ Q) X.xe s₂) X.xe s₁) X.xe s
theorem yu(b:Expr){op:CmpOp}(h:op≠.In)(h2:op≠.NotIn):j9 op b=false:=by
 have e1:(op==CmpOp.In)=false:=by cases op<;>first|rfl|exact absurd rfl h
 have e2:(op==CmpOp.NotIn)=false:=by cases op<;>first|rfl|exact absurd rfl h2
 cases b<;>simp[j9,e1,e2]
def Dt(ta:TE):TE:=fun σ H Q=>ta σ H fun x H1=>Q (.bl (decide (x=.non))) H1
def A_(ta:TE):TE:=fun σ H Q=>ta σ H fun x H1=>Q (.bl (!decide (x=.non))) H1
theorem RelV.none_iff{x:V}{v:Value}(r:RelV x v):(v==Value.none)=decide (x=.non):=by
 cases x with
 |non=>cases r;rfl
 |bl _=>cases r;rfl
 |int _=>obtain⟨t,rfl⟩:=r;rfl
 |str _=>obtain⟨t,rfl⟩:=r;rfl
 |byt _=>obtain⟨t,rfl⟩:=r;rfl
 |flt _=>obtain⟨t,rfl⟩:=r;rfl
 |ref _=>cases r;rfl
 |ty _=>cases r;rfl
theorem z7{j pos'}(ha:PE X a ta):PC X .Is a (.Constant .none j pos') (Dt ta):=by
 intro J6 s σ H Q I h;refine cM (ha J6 s σ H _ I h) fun v s1 ⟨x,H1,I1,r1,q1⟩=>?_;exact Constant_none (is_none_gen ⟨.bl _,H1,I1,by rw[r1.none_iff];rfl,q1⟩)
theorem wA{j pos'}(ha:PE X a ta):PC X .IsNot a (.Constant .none j pos') (A_ ta):=by
 intro J6 s σ H Q I h;refine cM (ha J6 s σ H _ I h) fun v s1 ⟨x,H1,I1,r1,q1⟩=>?_;exact Constant_none (isnot_none_gen ⟨.bl _,H1,I1,by rw[r1.none_iff];rfl,q1⟩)
def tB(t:TE):TT:=fun σ H Q=>t σ H fun x H1=>∃c,x=.bl c/\Q c H1
theorem Ih{op:CmpOp}{t:TE}(h:PC X op a b t)(h1:j9 op b=false:=by first|exact yu _ (by decide) (by decide)|rfl):PE X (.Compare a [op] [b] pos) t:=fun J6 s σ H Q I hw=>wpAny_Compare1 (h J6 s σ H Q I hw) h1
theorem g9{op:CmpOp}{t:TE}(h:PC X op a b t)(h1:j9 op b=false:=by first|exact yu _ (by decide) (by decide)|rfl):PT X (.Compare a [op] [b] pos) (tB t):=by
 intro J6 s σ H Q I hw;refine wpAny_isTrue_Compare1 (cM (h J6 s σ H _ I hw) fun v s1 h1=>cM h1 fun u s2 h2=>cM h2 fun c s3 ⟨x,H1,I1,r1,q1⟩=>?_) h1;obtain⟨d,rfl,q⟩:=q1;cases r1;exact nh ⟨H1,I1,q⟩
theorem ft{e:Expr}{t:TE}(h:PE X e t)(he:∀whole,isTrue e X.env whole=(do let v <- whole;uF e.pos;m_ [v] (truthy v)):=by intro _;rfl):PT X e (tB t):=by
 intro J6 s σ H Q I hw;refine isTrue_plain (cM (h J6 s σ H _ I hw) fun v s1 ⟨x,H1,I1,r1,q1⟩=>?_) (he _);obtain⟨d,rfl,q⟩:=q1;cases r1;exact nh ⟨H1,I1,q⟩
variable{tA tB':TT}{rest:List Expr}
def zM(t u:TT):TT:=fun σ H Q=>t σ H fun c H1=>if c=true then u σ H1 Q else Q false H1
def C8(t u:TT):TT:=fun σ H Q=>t σ H fun c H1=>if c=true then Q true H1 else u σ H1 Q
def sw(t:TT):TT:=fun σ H Q=>t σ H fun c H1=>Q (!c) H1
theorem q_(ha:PT X a tA):PW X (.BoolOp .And [a] pos) tA:=by
 intro wh J6 s σ H Q I h;refine isTrue_and (cM (ha J6 s σ H Q I h) fun c s1 e=>?_);cases c with
 |true=>exact isTrue_and_nil e
 |false=>exact e
theorem mH(ha:PT X a tA):PW X (.BoolOp .Or [a] pos) tA:=by
 intro wh J6 s σ H Q I h;refine isTrue_or (cM (ha J6 s σ H Q I h) fun c s1 e=>?_);cases c with
 |false=>exact isTrue_or_nil e
 |true=>exact e
theorem sN(ha:PT X a tA)(hb:PW X (.BoolOp .And (b::rest) pos) tB'):PW X (.BoolOp .And (a::b::rest) pos) (zM tA tB'):=by
 intro wh J6 s σ H Q I h;refine isTrue_and (cM (ha J6 s σ H _ I h) fun c s1 ⟨H1,I1,q1⟩=>?_);cases c with
 |true=>exact hb wh J6 s1 σ H1 Q I1 q1
 |false=>exact⟨H1,I1,q1⟩
theorem kS(ha:PT X a tA)(hb:PW X (.BoolOp .Or (b::rest) pos) tB'):PW X (.BoolOp .Or (a::b::rest) pos) (C8 tA tB'):=by
 intro wh J6 s σ H Q I h;refine isTrue_or (cM (ha J6 s σ H _ I h) fun c s1 ⟨H1,I1,q1⟩=>?_);cases c with
 |true=>exact⟨H1,I1,q1⟩
 |false=>exact hb wh J6 s1 σ H1 Q I1 q1
theorem kT(ha:PT X a tA):PT X (.UnaryOp .Not a pos) (sw tA):=by
 intro J6 s σ H Q I h;exact isTrue_not (ha J6 s σ H (fun c H1=>Q (!c) H1) I h)
def iC(ta tb:TE):TE:=fun σ H Q=>ta σ H fun x H1=>∃c,x=.bl c/\if c=true then tb σ H1 Q else Q (.bl false) H1
def HE(ta tb:TE):TE:=fun σ H Q=>ta σ H fun x H1=>∃c,x=.bl c/\if c=true then Q (.bl true) H1 else tb σ H1 Q
def Dq(ta:TE):TE:=fun σ H Q=>ta σ H fun x H1=>∃c,x=.bl c/\Q (.bl (!c)) H1
theorem gj{op}{t:TE}(h:PE X a t):PE X (.BoolOp op [a] pos) t:=fun J6 s σ H Q I hw=>BoolOp_one (h J6 s σ H Q I hw)
theorem gk(ha:PE X a ta)(hb:PE X (.BoolOp .And (b::rest) pos) tb):PE X (.BoolOp .And (a::b::rest) pos) (iC ta tb):=by
 intro J6 s σ H Q I h;refine BoolOp_and (cM (ha J6 s σ H _ I h) fun v s1 ⟨x,H1,I1,r1,q1⟩=>?_);obtain⟨c,rfl,q1⟩:=q1;cases r1;refine nh ?_;cases c with
 |true=>exact hb J6 s1 σ H1 Q I1 q1
 |false=>exact⟨.bl false,H1,I1,rfl,q1⟩
theorem G9(ha:PE X a ta)(hb:PE X (.BoolOp .Or (b::rest) pos) tb):PE X (.BoolOp .Or (a::b::rest) pos) (HE ta tb):=by
 intro J6 s σ H Q I h;refine BoolOp_or (cM (ha J6 s σ H _ I h) fun v s1 ⟨x,H1,I1,r1,q1⟩=>?_);obtain⟨c,rfl,q1⟩:=q1;cases r1;refine nh ?_;cases c with
 |false=>exact hb J6 s1 σ H1 Q I1 q1
 |true=>exact⟨.bl true,H1,I1,rfl,q1⟩
theorem Ie(ha:PE X a ta):PE X (.UnaryOp .Not a pos) (Dq ta):=by
 intro J6 s σ H Q I h;refine UnaryOp_ (cM (ha J6 s σ H _ I h) fun v s1 ⟨x,H1,I1,r1,q1⟩=>?_);obtain⟨c,rfl,q1⟩:=q1;cases r1;exact not_of (nh ⟨.bl (!c),H1,I1,rfl,q1⟩)
def tIf(t:TT)(ta tb:TE):TE:=fun σ H Q=>t σ H fun c H1=>if c=true then ta σ H1 Q else tb σ H1 Q
theorem Eh{c:Expr}(hc:PT X c tA)(ha:PE X a ta)(hb:PE X b tb):PE X (.IfExp c a b pos) (tIf tA ta tb):=by
 intro J6 s σ H Q I h;refine wpAny_IfExp (cM (hc J6 s σ H _ I h) fun d s1 ⟨H1,I1,q1⟩=>?_);cases d with
 |true=>exact ha J6 s1 σ H1 Q I1 q1
 |false=>exact hb J6 s1 σ H1 Q I1 q1
end
end L2
namespace L2
open PySem PySem.Spec PyProof.Rows
def aA(K:Za)(H:Hp)(a:Addr)(xs:List V):Prop :=
 Rd H a (.lst xs) ∨
  ∃(o:Obj) (its:Array Value) (n:Nat),K.lookup a=some o/\o.cls=.type "list"/\o.dict=none/\o.data=.seq its n/\its.size<=aj/\bg xs its.toList
def b_(K:Za)(H:Hp)(a:Addr)(xs:List V):Prop :=
 Rd H a (.tup xs) ∨
  ∃(o:Obj) (its:Array Value) (n:Nat),K.lookup a=some o/\o.cls=.type "tuple"/\o.data=.seq its n/\its.size<=aj/\bg xs its.toList
def absV:Value->Option V
 |.none=>some .non
 |.bool b=>some (.bl b)
 |.int i _=>some (.int i)
 |.str x _=>some (.str x)
 |.bytes b _=>some (.byt b)
 |.float b _=>some (.flt b)
 |.ref a=>some (.ref a)
 |.type n=>some (.ty n)
 |_=>none
theorem RelV.abs{x:V}{u:Value}(r:RelV x u):absV u=some x:=by
 cases x with
 |non=>cases r;rfl
 |bl _=>cases r;rfl
 |int _=>obtain⟨t,rfl⟩:=r;rfl
 |str _=>obtain⟨t,rfl⟩:=r;rfl
 |byt _=>obtain⟨t,rfl⟩:=r;rfl
 |flt _=>obtain⟨t,rfl⟩:=r;rfl
 |ref _=>cases r;rfl
 |ty _=>cases r;rfl
theorem RelV.inj{x y:V}{u:Value}(r:RelV x u)(q:RelV y u):x=y:=dX (r.abs.symm.trans q.abs)
theorem bg.inj:∀{xs ys:List V}{us:Zf},bg xs us->bg ys us->xs=ys
 |_,_,_,.nil,.nil=>rfl
 |_,_,_,.cons r t,.cons r' t'=>by rw[r.inj r',bg.inj t t']
section
variable{X:Cx}{J6:Zd}{σ:St}{H:Hp}{s:Shared}{a:Addr}{xs ys:List V}
theorem aA.of{K:Za}(h:H a=some (.lst xs)):aA K H a xs:=.inl (.inl h)
theorem b_.of{K:Za}(h:H a=some (.tup xs)):b_ K H a xs:=.inl (.inl h)
theorem Inv.list(I:Inv X J6 σ H s)(h:aA X.K H a xs):∃its:List Value,bg xs its/\PlainL s.heap a its.toArray/\xs.length<=aj:=by
 rcases h with h|⟨o,its,n,hk,hc,hd,hs,hz,r⟩
 ·obtain⟨z,its,n,r,e⟩:=h.ok I.hok;exact⟨its,r,⟨_,n,e,rfl,rfl,rfl⟩,z⟩
 ·refine⟨its.toList,r,⟨o,n,I.kIn a o hk,hc,hd,by simpa using hs⟩,?_⟩;have e:=r.length;simp only[qd]at e;omega
theorem Inv.tuple(I:Inv X J6 σ H s)(h:b_ X.K H a xs):∃its:List Value,bg xs its/\IsTup s.heap a its.toArray/\xs.length<=aj:=by
 rcases h with h|⟨o,its,n,hk,hc,hs,hz,r⟩
 ·obtain⟨z,its,r,p⟩:=h.ok I.hok;exact⟨its,r,p,z⟩
 ·refine⟨its.toList,r,⟨o,I.kIn a o hk,hc,n,by simpa using hs⟩,?_⟩;have e:=r.length;simp only[qd]at e;omega
theorem Inv.list_inj(I:Inv X J6 σ H s)(h:aA X.K H a xs)(h':aA X.K H a ys):xs=ys:=by
 obtain⟨its,r,⟨o,n,e,_,_,d⟩,_⟩:=I.list h;obtain⟨its',r',⟨o',n',e',_,_,d'⟩,_⟩:=I.list h';rw[e]at e';cases e';rw[d]at d';injection d' with d1 _;have:its=its':=by simpa using congrArg Array.toList d1
 subst this;exact r.inj r'
theorem Inv.tuple_inj(I:Inv X J6 σ H s)(h:b_ X.K H a xs)(h':b_ X.K H a ys):xs=ys:=by
 obtain⟨its,r,⟨o,e,_,n,d⟩,_⟩:=I.tuple h;obtain⟨its',r',⟨o',e',_,n',d'⟩,_⟩:=I.tuple h';rw[e]at e';cases e';rw[d]at d';injection d' with d1 _;have:its=its':=by simpa using congrArg Array.toList d1
 subst this;exact r.inj r'
end
abbrev Cx.wish(X:Cx)(E:Zc):Cx:={ X with xe:=E }
abbrev Cx.nox(X:Cx):Cx:=X.wish fun _ _=>False
theorem Cx.Ok.wish{X:Cx}(ok:X.Ok)(E:Zc):(X.wish E).Ok :=
 ⟨ok.mod,ok.kind,ok.glob,ok.blt,ok.above,ok.inj,ok.has,ok.cab,ok.hd,ok.frames,ok.stk,ok.exf,ok.bs,ok.bsz,ok.noex,ok.exfs,ok.funs,ok.frf⟩
theorem Cx.Ok.unwish{X:Cx}{E:Zc}(ok:(X.wish E).Ok):X.Ok :=
 ⟨ok.mod,ok.kind,ok.glob,ok.blt,ok.above,ok.inj,ok.has,ok.cab,ok.hd,ok.frames,ok.stk,ok.exf,ok.bs,ok.bsz,ok.noex,ok.exfs,ok.funs,ok.frf⟩
section
variable{X:Cx}{J6:Zd}{σ:St}{H:Hp}{s:Shared}{E:Zc}
theorem Inv.wish(I:Inv X J6 σ H s)(E:Zc):Inv (X.wish E) J6 σ H s:=⟨I.ok.wish E,I.os,I.bare,I.base,I.loc,I.cell,I.free,I.freeC,I.pin,I.hok,I.len⟩
theorem Inv.unwish(I:Inv (X.wish E) J6 σ H s):Inv X J6 σ H s:=⟨I.ok.unwish,I.os,I.bare,I.base,I.loc,I.cell,I.free,I.freeC,I.pin,I.hok,I.len⟩
theorem SP.unwish{D:il}{f:Flow}{s':Shared}(h:SP (X.wish E) J6 D f s'):SP X J6 D f s':=by
 cases f with
 |next=>obtain⟨σ',H',I,q⟩:=h;exact⟨σ',H',I.unwish,q⟩
 |brk=>obtain⟨σ',H',I,q⟩:=h;exact⟨σ',H',I.unwish,q⟩
 |cont=>obtain⟨σ',H',I,q⟩:=h;exact⟨σ',H',I.unwish,q⟩
 |ret u=>obtain⟨v,σ',H',I,r,q⟩:=h;exact⟨v,σ',H',I.unwish,r,q⟩
theorem xy.nox{st:List Stmt}{t:TS}(h:xy X.nox st t):xy X st t:=fun J6 s σ H D I hw =>
 bU (h J6 s σ H D (I.wish _) hw) (fun _ _ q=>q.unwish) fun _ _ z=>da z
end
section
variable{X:Cx}{st:Stmt}{rest:List Stmt}{t u:TS}{e:Expr}{te:TE}{pos:Pos}
def bo:TS:=fun D σ H=>D.nx σ H
def ax(t u:TS):TS:=fun D σ H=>t { D with nx:=u D } σ H
theorem aL:xy X [] bo:=fun _ _ σ H _ I h=>qb ⟨σ,H,I,h⟩
theorem ac(h1:PS X st t)(h2:xy X rest u):xy X (st::rest) (ax t u):=by
 intro J6 s σ H D I h;refine AW (cM (h1 J6 s σ H { D with nx:=u D } I h) fun f s1 q=>?_);cases f with
 |next =>
  obtain⟨σ',H',I',q⟩:=q;exact h2 J6 s1 σ' H' D I' q
 |ret v=>exact q
 |brk=>exact q
 |cont=>exact q
theorem ag(h1:PS X st t):xy X [st] t:=by
 intro J6 s σ H D I h;refine AW (cM (h1 J6 s σ H D I h) fun f s1 q=>?_);cases f with
 |next=>exact qb q
 |ret v=>exact q
 |brk=>exact q
 |cont=>exact q
theorem Inv.quiet{J6:Zd}{σ:St}{H:Hp}{s:Shared}(I:Inv X J6 σ H s):interactive X.env=false:=by simp[interactive,I.ok.kind]
def eE(te:TE):TS:=fun D σ H=>te σ H fun _ H1=>D.nx σ H1
theorem b9(he:PE X e te)(hs:l_ e none pos.line X.env=pure false:=by rfl):PS X (.Expr e pos) (eE te):=by
 intro J6 s σ H D I h;exact wpAny_Expr_any (cM (he J6 s σ H _ I h) fun v s1 ⟨x,H1,I1,r1,q1⟩=>⟨σ,H1,I1,q1⟩) I.quiet hs
def aZ(te:TE):TS:=fun D σ H=>te σ H D.rt
theorem aw(he:PE X e te):PS X (.Return (some e) pos) (aZ te):=by
 intro J6 s σ H D I h;exact wpAny_Return_some (cM (he J6 s σ H _ I h) fun v s1 ⟨x,H1,I1,r1,q1⟩=>⟨x,σ,H1,I1,r1,q1⟩)
def cG(c:TT)(t u:TS):TS:=fun D σ H=>c σ H fun b H1=>if b=true then t D σ H1 else u D σ H1
theorem bG{c:Expr}{a b:List Stmt}{tc:TT}(hc:PT X c tc)(ha:xy X a t)(hb:xy X b u):PS X (.If c a b pos) (cG tc t u):=by
 intro J6 s σ H D I h;refine wpAny_If (cM (hc J6 s σ H _ I h) fun d s1 ⟨H1,I1,q1⟩=>?_);cases d with
 |true=>exact ha J6 s1 σ H1 D I1 q1
 |false=>exact hb J6 s1 σ H1 D I1 q1
end
abbrev TG:=V->St->Hp->(St->Hp->Prop)->Prop
abbrev xK:=List V->St->Hp->(St->Hp->Prop)->Prop
def PG(X:Cx)(target:Expr)(t:TG):Prop :=
 ∀(J6:Zd) (s:Shared) (σ:St) (H:Hp) (v:V) (u:Value) (Q:St->Hp->Prop),Inv X J6 σ H s->RelV v u->t v σ H Q ->
  wpAny (model X.prog X.w) X.A (assign target X.env u) (fun _ s'=>∃σ' H',Inv X J6 σ' H' s'/\Q σ' H') X.xe s
def JI(X:Cx)(ts:List Expr)(t:xK):Prop :=
 ∀(J6:Zd) (s:Shared) (σ:St) (H:Hp) (vs:List V) (us:Zf) (Q:St->Hp->Prop),Inv X J6 σ H s->bg vs us->t vs σ H Q ->
  wpAny (model X.prog X.w) X.A (assignInOrder ((qa ts X.env).map (·.2)) us) (fun _ s'=>∃σ' H',Inv X J6 σ' H' s'/\Q σ' H') X.xe s
abbrev IK:=V->V->V->Hp->(Hp->Prop)->Prop
def JH(X:Cx)(t:IK):Prop :=
 ∀(J6:Zd) (s:Shared) (σ:St) (H:Hp) (o i v:V) (ov iv u:Value) (Q:Hp->Prop),Inv X J6 σ H s->RelV o ov->RelV i iv->RelV v u->t o i v H Q ->
  wpAny (model X.prog X.w) X.A (setItem ov iv u) (fun _ s'=>∃H',Inv X J6 σ H' s'/\Q H') X.xe s
section
variable{X:Cx}{pos:Pos}
def d4(i:Nat):TG:=fun v σ H Q=>Q (σ.set i (some v)) H
abbrev U0:TG:=d4 0
abbrev U1:TG:=d4 1
abbrev U2:TG:=d4 2
abbrev U3:TG:=d4 3
abbrev U4:TG:=d4 4
abbrev U5:TG:=d4 5
abbrev U6:TG:=d4 6
abbrev U7:TG:=d4 7
abbrev U8:TG:=d4 8
abbrev U9:TG:=d4 9
abbrev U10:TG:=d4 10
abbrev U11:TG:=d4 11
abbrev U12:TG:=d4 12
theorem Bl{i:Nat}{x:Str}(hN:X.N.Nodup)(hi:X.N[i]?=some x)(hx:Loc X.env.scope x)(hf:X.fn x=true∨X.env.scope.names.lookup x=some .local:=by first|exact .inl rfl|exact .inr rfl|assumption):PG X (.Name x pos) (d4 i):=by
 intro J6 s σ H v u Q I r h;exact wpAny_assign_Name (nC I hN hi hx r (fun s' I'=>⟨_,H,I',h⟩) hf)
def g_:xK:=fun vs σ H Q=>vs=[]/\Q σ H
def be(t:TG)(u:xK):xK:=fun vs σ H Q=>∃v r,vs=v::r/\t v σ H fun σ' H'=>u r σ' H' Q
theorem cA:JI X [] g_:=by
 intro J6 s σ H vs us Q I r h;obtain⟨e,h⟩:=h;subst e;cases r;exact assignInOrder_nil ⟨σ,H,I,h⟩
theorem ay{e:Expr}{es:List Expr}{t:TG}{u:xK}(h1:PG X e t)(h2:JI X es u)
  (hs:(qa (e::es) X.env).map (·.2)=assign e X.env::(qa es X.env).map (·.2):=by rfl):JI X (e::es) (be t u):=by
 intro J6 s σ H vs us Q I r h;obtain⟨v,vr,e1,h⟩:=h;subst e1;cases r with
 |cons r rr =>
  rw[hs];refine assignInOrder_cons (cM (h1 J6 s σ H _ _ _ I r h) fun _ s1 ⟨σ1,H1,I1,q1⟩=>?_);exact h2 J6 s1 σ1 H1 _ _ Q I1 rr q1
def ic(K:Za)(n:Nat)(t:xK):TG:=fun v σ H Q=>∃a xs,v=.ref a/\b_ K H a xs/\xs.length=n/\t xs σ H Q
theorem dU{es:List Expr}{k:Nat}{t:xK}{n:Nat}(hc:X.calm=true)(h:JI X es t)
  (hn:(qa es X.env).length=n:=by rfl) (hst:(qa es X.env).findIdx? (·.1)=none:=by rfl):PG X (.Tuple es k pos) (ic X.K n t):=by
 intro J6 s σ H v u Q I r hw;obtain⟨a,xs,e1,hq,hl,hw⟩:=hw;subst e1;cases r;obtain⟨its,rv,ht,hz⟩:=I.tuple hq;refine assign_Tuple_tuple (I.ok.hd hc) ht (by simp[hn,<-hl,rv.length]) hst fun h' hx=>?_;have I1:Inv X J6 σ H { s with heap:=h' }:=I.kept (t':=s.toks) fun b o e=>hx b o (cx (aM e)) e;exact h J6 _ σ H xs _ Q I1 (by simpa using rv) hw
def Aq(to ti:TE)(t:IK):TG:=fun v σ H Q=>to σ H fun o H1=>ti σ H1 fun i H2=>t o i v H2 fun H3=>Q σ H3
theorem sO{o i:Expr}{to ti:TE}{t:IK}(ho:PE X o to)(hi:PE X i ti)(hs:JH X t)
  (ha:∀v,assign (.Subscript o i pos) X.env v=(do
   let ov <- m_ [v] (eval o X.env)
   let iv <- m_ [v,ov] (eval i X.env)
   uF pos
   m_ [v,ov,iv] (setItem ov iv v)
   release [v,ov,iv] []):=by intro _;rfl):PG X (.Subscript o i pos) (Aq to ti t):=by
 intro J6 s σ H v u Q I r h;rw[ha];refine ao (kE (cM (ho J6 s σ H _ I h) fun ov s1 ⟨x,H1,I1,r1,q1⟩=>?_));refine ao (kE (cM (hi J6 s1 σ H1 _ I1 q1) fun iv s2 ⟨y,H2,I2,r2,q2⟩=>?_));refine ao (p_ (ao (kE (cM (hs J6 s2 σ H2 x y v ov iv u _ I2 r1 r2 r q2) fun _ s3 ⟨H3,I3,q3⟩=>?_))));exact wpAny_release ⟨σ,H3,I3,q3⟩
def aV(te:TE)(g:TG):TS:=fun D σ H=>te σ H fun x H1=>g x σ H1 D.nx
theorem kW{tg e:Expr}{te:TE}{g:TG}(he:PE X e te)(hg:PG X tg g)(hs:swapsWithSole [tg] e pos.line X.env=pure false:=by rfl)(hw:swappedStores [tg] e X.env=pure none:=by rfl)
  (h1:(qa [tg] X.env).map (·.2)=[assign tg X.env]:=by rfl):PS X (.Assign [tg] e pos) (aV te g):=by
 intro J6 s σ H D I h;refine wpAny_Assign_stores (cM (he J6 s σ H _ I h) fun v s1 ⟨x,H1,I1,r1,q1⟩=>?_) hs hw;rw[h1];exact cM (hg J6 s1 σ H1 x v _ I1 r1 q1) fun _ s2 q=>q
theorem HY{i:Nat}{x:Str}{e:Expr}{te:TE}{pos':Pos}(hN:X.N.Nodup)(hi:X.N[i]?=some x)(hx:Loc X.env.scope x)(he:PE X e te)(hs:l_ e (some (.Name x pos')) pos.line X.env=pure false:=by rfl)(hf:X.fn x=true∨X.env.scope.names.lookup x=some .local:=by first|exact .inl rfl|exact .inr rfl|assumption):
  PS X (.Assign [.Name x pos'] e pos) (aV te (d4 i)):=by
 intro J6 s σ H D I h;refine wpAny_Assign_Name (cM (he J6 s σ H _ I h) fun v s1 ⟨y,H1,I1,r1,q1⟩=>?_) hs;exact nC I1 hN hi hx r1 (fun s2 I2=>⟨_,H1,I2,q1⟩) hf
end
section
variable{X:Cx}{pos:Pos}
def zz(c:TT)(tb:TS):TS:=fun D σ H=>∃W:Nat->St->Hp->Prop,(∃m,W m σ H)/\∀m σ H,W m σ H ->
 c σ H fun b H1=>if b=true then ∃N:St->Hp->Prop,(∀σ' H',N σ' H'->∃m',m'<m/\W m' σ' H')/\tb { D with nx:=N,ct:=N,bk:=D.nx } σ H1 else D.nx σ H1
theorem yq{c:Expr}{body:List Stmt}{tc:TT}{tb:TS}(hp:AU (model X.prog X.w) X.A X.env X.xe)(hc:PT X c tc)(hb:xy X body tb):PS X (.While c body [] pos) (zz tc tb):=by
 intro J6 s σ H D I h;obtain⟨W,⟨m0,w0⟩,turn⟩:=h;refine wpAny_While (codeAny_whileLoop (fun n s'=>∃σ' H',Inv X J6 σ' H' s'/\W n σ' H') ?_ m0 ⟨σ,H,I,w0⟩);rintro n s1 ⟨σ1,H1,I1,w1⟩;refine j8 hp (cM (hc J6 s1 σ1 H1 _ I1 (turn n σ1 H1 w1)) fun b s2 ⟨H2,I2,q2⟩=>?_);cases b with
 |true =>
  obtain⟨N,hN,q2⟩:=q2;rw[if_pos rfl];refine j8 hp (cM (hb J6 s2 σ1 H2 _ I2 q2) fun f s3 q3=>?_);cases f with
  |next =>
   obtain⟨σ3,H3,I3,n3⟩:=q3;obtain⟨m',hm,w3⟩:=hN σ3 H3 n3;exact⟨m',hm,σ3,H3,I3,w3⟩
  |cont =>
   obtain⟨σ3,H3,I3,n3⟩:=q3;obtain⟨m',hm,w3⟩:=hN σ3 H3 n3;exact⟨m',hm,σ3,H3,I3,w3⟩
  |brk=>exact q3
  |ret v=>exact q3
 |false =>
  rw[if_neg jr];exact qb ⟨σ1,H2,I2,q2⟩
end
structure It where
 go:Nat->Hp->Prop
 yld:Nat->Hp->V->Hp->Prop
 stop:Nat->Hp->Prop
def lr(X:Cx)(J6:Zd)(H:Hp)(b:Addr):Prop :=
 H b=none/\b≠X.env.locals/\b∉X.fs/\(b∈X.ex∨X.s₀.heap.objs.size<=b)/\(∀x c,X.env.cells.lookup x=some c->c≠b)/\∀p∈X.pn++J6,p.1≠b
theorem Inv.fpOk{X:Cx}{J6:Zd}{σ:St}{H H':Hp}{s:Shared}{b:Addr}(I:Inv X J6 σ H s)(hb:s.heap.objs.size<=b)(hn:H' b=none):lr X J6 H' b:=by
 refine⟨hn,eK (fE I.lt hb),I.nofs hb,.inr (bj I.sz hb),fun x c e z=>?_,fun p hp z=>?_⟩
 ·obtain⟨v,q⟩:=I.cell x c e;exact absurd (fE q.lt (by rw[z];exact hb)) (qe _)
 ·exact absurd (fE (aM (I.pin p hp).1) (by rw[z];exact hb)) (qe _)
structure uu(P:bB)(w:World)(K:Za)(tg:Expr)(J:It)(fp:Ze)(it:Addr)(tn:Nat->Heap->Prop):Prop where
 mem:it∈fp
 obj:∀i h,tn i h->∀b∈fp,∃o,h.get? b=some o/\∀v,o.data≠.cell v
 keep:∀i h h',tn i h->(∀b∈fp,∀o,h.get? b=some o->h'.get? b=some o)->tn i h'
 item:∀(X:Cx),X.prog=P->X.w=w->X.K=K->X.calm=true->∀(i:Nat) (J6:Zd) (s:Shared) (σ:St) (H:Hp) (E:Zc),Inv X J6 σ H s->(∀b∈fp,lr X J6 H b)->tn i s.heap->J.go i H ->
  wpAny (model P w) X.A (pyNext (.ref it)) (fun r s1=>∃u,r=some u /\
   wpAny (model P w) X.A (AT tg (.ref it) u) (fun _ s2=>∃x H',Inv X J6 σ H' s2/\RelV x u/\J.yld i H x H'/\tn (i+1) s2.heap/\∀b∈fp,H' b=none) E s1) E s
 done:∀(X:Cx),X.prog=P->X.w=w->X.K=K->X.calm=true->∀(i:Nat) (J6:Zd) (s:Shared) (σ:St) (H:Hp) (E:Zc),Inv X J6 σ H s->(∀b∈fp,lr X J6 H b)->tn i s.heap->J.stop i H ->
  wpAny (model P w) X.A (pyNext (.ref it)) (fun r s1=>r=none/\Inv X J6 σ H s1) E s
 self:∀(A:Around) (i:Nat) (s:Shared) (Q:Zc) (E:Zc),tn i s.heap->Q (.ref it) s->wpAny (model P w) A (pyIter (.ref it)) Q E s
abbrev TI:=St->Hp->(It->Hp->Prop)->Prop
def PIE(X:Cx)(J6:Zd)(σ:St)(tg:Expr)(R:It->Hp->Prop)(itv:Value)(s2:Shared):Prop :=
 ∃(it:Addr) (fp:Ze) (tn:Nat->Heap->Prop) (J:It) (H':Hp),itv=.ref it/\Inv X J6 σ H' s2/\uu X.prog X.w X.K tg J fp it tn/\tn 0 s2.heap/\(∀b∈fp,lr X J6 H' b)/\R J H'
def PI(X:Cx)(tg iter:Expr)(wi:TI):Prop :=
 ∀(J6:Zd) (s:Shared) (σ:St) (H:Hp) (R:It->Hp->Prop),Inv X J6 σ H s->wi σ H R ->
  wpAny (model X.prog X.w) X.A (eval iter X.env) (fun v s1=>wpAny (model X.prog X.w) X.A (pyIter v) (PIE X J6 σ tg R) X.xe s1) X.xe s
theorem yG{M:Model}{A:Around}{E:Zc}{s:Shared}{tg:Expr}{it:Addr}{u:Value}{o:Obj}{n:String}{vs:Array Value}{Q:Unit->Shared->Prop}(ho:s.heap.get? it=some o)(hc:o.cls=.type n)(hd:o.data=.fields vs)
    (hn:["enumerate","zip","dict_itemiterator","dict_reverseitemiterator","odict_iterator","itertools.zip_longest","itertools.pairwise"].contains n=false) (hQ:Q () s):wpAny M A (AT tg (.ref it) u) Q E s:=by
  unfold AT;cases tg<;>first
    |exact a_ hQ
    | (cases u <;> first
        |exact a_ hQ
        | (refine ao (wpAny_load ho ?_)
           rw[hc,hd];show wpAny M A (if(["enumerate","zip","dict_itemiterator","dict_reverseitemiterator","odict_iterator","itertools.zip_longest","itertools.pairwise"].contains n && vs[0]?==some (rawInt _))=true then _ else _) Q E s
           rw[if_neg (by intro h;rw[hn,xO]at h;cases h)];exact a_ hQ))
def Hs(K:Za)(a:Addr):It :=
 ⟨fun i H=>∃xs x,aA K H a xs/\xs[i]?=some x,fun i H x H'=>H'=H/\∀xs,aA K H a xs->xs[i]?=some x,fun i H=>∃xs,aA K H a xs/\xs.length<=i⟩
def I_(K:Za)(a:Addr):It :=
 ⟨fun i H=>∃xs x,b_ K H a xs/\xs[i]?=some x,fun i H x H'=>H'=H/\∀xs,b_ K H a xs->xs[i]?=some x,fun i H=>∃xs,b_ K H a xs/\xs.length<=i⟩
def IS(lo:Int)(n:Nat):It:=⟨fun i _=>i<n,fun i H x H'=>H'=H/\x=.int (lo+i),fun i _=>n<=i⟩
theorem uJ{P:bB}{w:World}{K:Za}{tg:Expr}(a it:Addr):uu P w K tg (Hs K a) [it] it (fun i h=>h.IsListIter it a i) where
 mem:=by simp
 obj:=fun i h st b hb=>by
  have e:b=it:=by simpa using hb
  subst e;obtain⟨o,e,c,d⟩:=st;exact⟨o,e,fun v z=>by rw[d]at z;cases z⟩
 keep:=fun i h h' st k=>st.at fun o e=>k it (by simp) o e
 item:=by
  intro X hP hw hK hc i J6 s σ H E I hf st hg;subst hP hw hK;obtain⟨xs,x,hq,hx⟩:=hg;obtain⟨its,rv,p,hz⟩:=I.list hq;obtain⟨u,hu,ru⟩:=rv.get hx;obtain⟨f0,f1,f2,f3,f4,f5⟩:=hf it (by simp);refine wpAny_pyNext_list_item st p.isList (x:=u) (by simpa using hu) fun h' st' sb=>?_;have I1:Inv X J6 σ H { s with heap:=h' }:=I.turned (t':=s.toks) (fun b o hb e=>(sb.2 b hb).trans e) f0 f1 f3 f4 f5;obtain⟨o,e,c,d⟩:=id st';exact⟨u,rfl,yG (s:={ s with heap:=h' }) e c d (by decide) ⟨x,H,I1,ru,⟨rfl,fun ys hy=>by rw[I.list_inj hy hq];exact hx⟩,st',fun b hb=>(hf b hb).1⟩⟩
 done:=by
  intro X hP hw hK hc i J6 s σ H E I hf st hg;subst hP hw hK;obtain⟨xs,hq,hx⟩:=hg;obtain⟨its,rv,p,hz⟩:=I.list hq;obtain⟨f0,f1,f2,f3,f4,f5⟩:=hf it (by simp);have hl:=rv.length;exact wpAny_pyNext_list_end (I.ok.hd hc) st p.isList (by simp;omega) fun h' eb=>⟨rfl,I.turned (t':=s.toks) (fun b o hb e=>eb b o hb e) f0 f1 f3 f4 f5⟩
 self:=fun _ _ _ _ _ st h=>wpAny_pyIter_listiter st h
theorem si{P:bB}{w:World}{K:Za}{tg:Expr}(a it:Addr):uu P w K tg (I_ K a) [it] it (fun i h=>h.IsTupleIter it a i) where
 mem:=by simp
 obj:=fun i h st b hb=>by
  have e:b=it:=by simpa using hb
  subst e;obtain⟨o,e,c,d⟩:=st;exact⟨o,e,fun v z=>by rw[d]at z;cases z⟩
 keep:=fun i h h' st k=>st.at fun o e=>k it (by simp) o e
 item:=by
  intro X hP hw hK hc i J6 s σ H E I hf st hg;subst hP hw hK;obtain⟨xs,x,hq,hx⟩:=hg;obtain⟨its,rv,p,hz⟩:=I.tuple hq;obtain⟨u,hu,ru⟩:=rv.get hx;obtain⟨f0,f1,f2,f3,f4,f5⟩:=hf it (by simp);refine wpAny_pyNext_tuple_item st (show s.heap.IsTuple a its.toArray from p) (x:=u) (by simpa using hu) fun h' st' sb=>?_;have I1:Inv X J6 σ H { s with heap:=h' }:=I.turned (t':=s.toks) (fun b o hb e=>(sb.2 b hb).trans e) f0 f1 f3 f4 f5;obtain⟨o,e,c,d⟩:=id st';exact⟨u,rfl,yG (s:={ s with heap:=h' }) e c d (by decide) ⟨x,H,I1,ru,⟨rfl,fun ys hy=>by rw[I.tuple_inj hy hq];exact hx⟩,st',fun b hb=>(hf b hb).1⟩⟩
 done:=by
  intro X hP hw hK hc i J6 s σ H E I hf st hg;subst hP hw hK;obtain⟨xs,hq,hx⟩:=hg;obtain⟨its,rv,p,hz⟩:=I.tuple hq;obtain⟨f0,f1,f2,f3,f4,f5⟩:=hf it (by simp);have hl:=rv.length;exact wpAny_pyNext_tuple_end (I.ok.hd hc) st (show s.heap.IsTuple a its.toArray from p) (by simp;omega) fun h' eb=>⟨rfl,I.turned (t':=s.toks) (fun b o hb e=>eb b o hb e) f0 f1 f3 f4 f5⟩
 self:=fun _ _ _ _ _ st h=>wpAny_pyIter_tupleiter st h
theorem zk{P:bB}{w:World}{K:Za}{tg:Expr}(it:Addr)(lo:Int)(n:Nat):uu P w K tg (IS lo n) [it] it (fun i h=>IsRangeIter h it (lo+(i:Nat) * 1) ((n:Int)-(i:Nat)) 1) where
 mem:=by simp
 obj:=fun i h st b hb=>by
  have e:b=it:=by simpa using hb
  subst e;exact⟨_,st,fun v z=>by
   have z':Data.fields _=Data.cell v:=z;cases z'⟩
 keep:=fun i h h' st k=>k it (by simp) _ st
 item:=by
  intro X hP hw hK hc i J6 s σ H E I hf st hg;subst hP hw hK;obtain⟨f0,f1,f2,f3,f4,f5⟩:=hf it (by simp);have W:=Walks.range (prog:=X.prog) (w:=X.w) (I.ok.hd hc) it lo 1 n;refine W.item i s _ _ hg st fun v h' tk hv st' kk=>?_;obtain⟨t,rfl⟩:=hv;have I1:Inv X J6 σ H { s with heap:=h',toks:=tk }:=I.turned (fun b o hb e=>kk b o (by simpa using hb) e) f0 f1 f3 f4 f5;refine⟨_,rfl,yG (s:={ s with heap:=h',toks:=tk }) (n:="range_iterator") st' rfl rfl (by decide) ⟨.int (lo+i),H,I1,⟨t,?_⟩,⟨rfl,rfl⟩,st',fun b hb=>(hf b hb).1⟩⟩;rw[Int.mul_one]
 done:=by
  intro X hP hw hK hc i J6 s σ H E I hf st hg;subst hP hw hK;obtain⟨f0,f1,f2,f3,f4,f5⟩:=hf it (by simp);exact wpAny_pyNext_range_end (I.ok.hd hc) st (by have:n<=i:=hg;omega) fun h' eb=>⟨rfl,I.turned (t':=s.toks) (fun b o hb e=>eb b o hb e) f0 f1 f3 f4 f5⟩
 self:=fun _ _ _ _ _ st h=>wpAny_pyIter_rangeiter st h
end L2
namespace L2
open PySem PySem.Spec PyProof.Rows
section
variable{X:Cx}{tg:Expr}
def dq(K:Za)(tl:TE):TI:=fun σ H R=>tl σ H fun x H1=>∃a,x=.ref a/\(∃xs,aA K H1 a xs)/\R (Hs K a) H1
def Iq(K:Za)(tl:TE):TI:=fun σ H R=>tl σ H fun x H1=>∃a,x=.ref a/\(∃xs,b_ K H1 a xs)/\R (I_ K a) H1
theorem bO{l:Expr}{tl:TE}(hl:PE X l tl):PI X tg l (dq X.K tl):=by
 intro J6 s σ H R I h;refine cM (hl J6 s σ H _ I h) fun v s1 ⟨x,H1,I1,r1,q1⟩=>?_;obtain⟨a,e,⟨xs,hq⟩,q⟩:=q1;subst e;cases r1;obtain⟨its,rv,p,hz⟩:=I1.list hq;refine AS p.isList ?_;refine⟨s1.heap.objs.size,[s1.heap.objs.size],_,_,H1,rfl,I1.kept (t':=s1.toks) fun b o e=>bb _ e,uJ a _,⟨_,dz _ rfl,rfl,rfl⟩,fun b hb=>?_,q⟩;have e:b=s1.heap.objs.size:=by simpa using hb
 subst e;exact I1.fpOk (aN _) (I1.hok.fresh (aN _))
theorem HZ{l:Expr}{tl:TE}(hl:PE X l tl):PI X tg l (Iq X.K tl):=by
 intro J6 s σ H R I h;refine cM (hl J6 s σ H _ I h) fun v s1 ⟨x,H1,I1,r1,q1⟩=>?_;obtain⟨a,e,⟨xs,hq⟩,q⟩:=q1;subst e;cases r1;obtain⟨its,rv,p,hz⟩:=I1.tuple hq;refine AR (show s1.heap.IsTuple a its.toArray from p) ?_;refine⟨s1.heap.objs.size,[s1.heap.objs.size],_,_,H1,rfl,I1.kept (t':=s1.toks) fun b o e=>bb _ e,si a _,⟨_,dz _ rfl,rfl,rfl⟩,fun b hb=>?_,q⟩;have e:b=s1.heap.objs.size:=by simpa using hb
 subst e;exact I1.fpOk (aN _) (I1.hok.fresh (aN _))
theorem DX{J6:Zd}{σ:St}{H:Hp}{s:Shared}{R:It->Hp->Prop}{E:Zc}{lo hi:Int}{t u v:Tok}{tk:Nat}(I:Inv X J6 σ H s)(h1:-(2 ^ 62)<=lo)(h2:lo<2 ^ 62)(h3:-(2 ^ 62)<=hi)(h4:hi<2 ^ 62)
  (q:R (IS lo (hi-lo).toNat) H):wpAny (model X.prog X.w) X.A (pyIter (.ref s.heap.objs.size)) (PIE X J6 σ tg R) E { s with heap:=s.heap.push { cls:=.type "range",data:=.fields #[.int lo t,.int hi u,.int 1 v] },toks:=tk }:=by
 refine wpAny_pyIter_range (IsRange.new ..) (small_one h1 h2 h3 h4) ?_;have I1:Inv X J6 σ H { s with heap:=s.heap.push { cls:=.type "range",data:=.fields #[.int lo t,.int hi u,.int 1 v] },toks:=tk }:=I.kept fun b o e=>bb _ e;refine⟨(s.heap.push { cls:=.type "range",data:=.fields #[.int lo t,.int hi u,.int 1 v] }).objs.size,[(s.heap.push { cls:=.type "range",data:=.fields #[.int lo t,.int hi u,.int 1 v] }).objs.size],_,_,H,rfl,
  I1.kept (t':=tk) fun b o e=>bb _ e,zk _ lo (hi-lo).toNat,?_,fun b hb=>?_,q⟩
 ·have e1:lo+((0:Nat):Int) * 1=lo:=by simp
  have e2:(((hi-lo).toNat:Nat):Int)-((0:Nat):Int)=cO.Range.rangeSize lo hi 1:=by rw[rangeSize_one];split<;>omega
  show IsRangeIter _ _ (lo+((0:Nat):Int) * 1) ((((hi-lo).toNat:Nat):Int)-((0:Nat):Int)) 1;rw[e1,e2];exact dz _ rfl
 ·have e:b=(s.heap.push { cls:=.type "range",data:=.fields #[.int lo t,.int hi u,.int 1 v] }).objs.size:=by simpa using hb
  subst e;exact I1.fpOk (aN _) (I1.hok.fresh (aN _))
def s_(ta:TA):TI:=fun σ H R=>ta σ H fun vs H1=>∃j:Int,vs=[.int j]/\-(2 ^ 62)<=j/\j<2 ^ 62/\R (IS 0 j.toNat) H1
theorem jy{a:Expr}{ta:TA}{p pos:Pos}(hg:Gl X "range")(hm:X.mg "range"=none)(ha:PA X [a] ta)(hs:aB [a] X.env=[(false,eval a X.env)]:=by rfl):PI X tg (.Call (.Name "range" p) [a] [] pos) (s_ ta):=by
 intro J6 s σ H R I h;refine Call_ (pG I hg hm boot_range (AQ (cM (ha pos J6 s σ H _ I h) fun us s1 ⟨vs,H1,I1,r1,q1⟩=>?_) hs rfl));obtain⟨j,e,q1,q2,q⟩:=q1;subst e;cases r1 with
 |cons r rr =>
  cases rr;obtain⟨t,rfl⟩:=r;exact call_range_1 (DX I1 (by omega) (by omega) q1 q2 (by simpa using q))
def fJ(wi:TI)(g:TG)(tb:TS):TS:=fun D σ H=>wi σ H fun J H1=>∃W:Nat->Nat->St->Hp->Prop,(∃m,W 0 m σ H1)/\∀i m σ H,W i m σ H ->
 (J.stop i H/\D.nx σ H)∨(J.go i H/\∃N:St->Hp->Prop,(∀σ' H',N σ' H'->∃m',m'<m/\W (i+1) m' σ' H')/\∀x H',J.yld i H x H'->g x σ H' fun σ2 H2=>tb { D with nx:=N,ct:=N,bk:=D.nx } σ2 H2)
def pj(fp:Ze)(h:Heap):List (Addr×Obj):=fp.filterMap fun b=>(h.get? b).map fun o=>(b,o)
theorem gp{fp:Ze}{h:Heap}{b:Addr}{o:Obj}(hb:b∈fp)(e:h.get? b=some o):(b,o)∈pj fp h:=List.mem_filterMap.mpr ⟨b,hb,by rw[e];rfl⟩
theorem Cy{fp:Ze}{h:Heap}{p:Addr×Obj}(hp:p∈pj fp h):p.1∈fp/\h.get? p.1=some p.2:=by
 obtain⟨b,hb,e⟩:=List.mem_filterMap.mp hp;cases q:h.get? b with
 |none=>rw[q]at e;cases e
 |some o =>
  rw[q]at e;have e':(b,o)=p:=dX e;subst e';exact⟨hb,q⟩
theorem Inv.pinned{J6:Zd}{σ:St}{H:Hp}{s:Shared}{fp:Ze}(I:Inv X J6 σ H s)(hf:∀b∈fp,lr X J6 H b)(ho:∀b∈fp,∃o,s.heap.get? b=some o/\∀v,o.data≠.cell v):Inv X (J6++pj fp s.heap) σ H s :=
 I.pins_of fun p hp=>(bJ.mp hp).elim (fun z=>I.pin p (dw _ z)) fun z=>by
  obtain⟨hb,e⟩:=Cy z;obtain⟨f0,f1,f2,_⟩:=hf p.1 hb;obtain⟨o,e',d⟩:=ho p.1 hb;rw[e]at e';cases e';exact⟨e,f0,f1,f2,d⟩
theorem Inv.unpinned{J6 pl:Zd}{σ:St}{H:Hp}{s:Shared}(I:Inv X (J6++pl) σ H s):Inv X J6 σ H s:=I.pins_of fun p hp=>I.pin p (dw _ (cJ _ hp))
theorem cH{iter:Expr}{body:List Stmt}{wi:TI}{g:TG}{tb:TS}{pos:Pos}(hp:AU (model X.prog X.w) X.A X.env X.xe)(hc:X.calm=true)(hi:PI X tg iter wi)(hg:PG X tg g)(hb:xy X body tb)
  (hs:∀x,uE iter X.env x=pure x:=by intro _;rfl):PS X (.For tg iter body [] pos) (fJ wi g tb):=by
 intro J6 s σ H D I h;refine wpAny_For (cM (hi J6 s σ H _ I h) fun v s1 h1=>cM h1 fun itv s2 h2=>?_) hs;obtain⟨it,fp,tn,J,H2,e,I2,T,st2,f2,W,⟨m0,w0⟩,turn⟩:=h2;subst e;have stat:∀{H':Hp},(∀b∈fp,H' b=none)->∀b∈fp,lr X J6 H' b:=fun hn b hb=>⟨hn b hb,(f2 b hb).2⟩;refine codeAny_forLoop_any (fun n s'=>∃i σ' H',Inv X J6 σ' H' s'/\tn i s'.heap/\(∀b∈fp,H' b=none)/\W i n σ' H') ?_ m0 ⟨0,σ,H2,I2,st2,fun b hb=>(f2 b hb).1,w0⟩;rintro n s3 ⟨i,σ3,H3,I3,st3,fr3,w3⟩;rcases turn i n σ3 H3 w3 with⟨stop,qn⟩|⟨go,N,hN,step⟩
 ·refine j8 hp (cM (T.done X rfl rfl rfl hc i J6 s3 σ3 H3 X.xe I3 (stat fr3) st3 stop) fun r s4 ⟨hr,I4⟩=>?_);subst hr;exact qb ⟨σ3,H3,I4,qn⟩
 ·refine j8 hp (cM (T.item X rfl rfl rfl hc i J6 s3 σ3 H3 X.xe I3 (stat fr3) st3 go) fun r s4 ⟨u,hr,h4⟩=>?_);subst hr;refine j8 hp (cM h4 fun _ s5 ⟨x,H5,I5,r5,y5,st5,fr5⟩=>?_);have I5':=I5.pinned (stat fr5) (T.obj _ _ st5);refine j8 hp (cM (hg _ s5 σ3 H5 x u _ I5' r5 (step x H5 y5)) fun _ s6 ⟨σ6,H6,I6,q6⟩=>?_);refine j8 hp (cM (hb _ s6 σ6 H6 _ I6 q6) fun f s7 q7=>?_);have again:∀{σ7:St}{H7:Hp},Inv X (J6++pj fp s5.heap) σ7 H7 s7->N σ7 H7->∃m,m<n/\∃i σ' H',Inv X J6 σ' H' s7/\tn i s7.heap/\(∀b∈fp,H' b=none)/\W i m σ' H':=fun{σ7 H7} I7 n7=>by
   obtain⟨m',hm,w7⟩:=hN σ7 H7 n7;refine⟨m',hm,i+1,σ7,H7,I7.unpinned,T.keep _ _ _ st5 fun b hb o e=>(I7.pin (b,o) (dw _ (dw _ (gp hb e)))).1,fun b hb=>?_,w7⟩;obtain⟨o,e,d⟩:=T.obj _ _ st5 b hb;exact(I7.pin (b,o) (dw _ (dw _ (gp hb e)))).2.1
  cases f with
  |next=>obtain⟨σ7,H7,I7,n7⟩:=q7;exact again I7 n7
  |cont=>obtain⟨σ7,H7,I7,n7⟩:=q7;exact again I7 n7
  |brk=>obtain⟨σ7,H7,I7,q7⟩:=q7;exact⟨σ7,H7,I7.unpinned,q7⟩
  |ret v=>obtain⟨x7,σ7,H7,I7,r7,q7⟩:=q7;exact⟨x7,σ7,H7,I7.unpinned,r7,q7⟩
end
theorem gR{K:Za}{a:Addr}{xs:List V}{g:TG}{tb:TS}{D:il}{σ:St}{H:Hp}(Pv:Nat->St->Hp->Prop)(h0:Pv 0 σ H)(hl:∀i σ H,i<=xs.length->Pv i σ H->aA K H a xs)
  (hs:∀i x σ H,xs[i]?=some x->Pv i σ H->g x σ H fun σ2 H2=>tb { D with nx:=Pv (i+1),ct:=Pv (i+1),bk:=D.nx } σ2 H2) (hd:∀σ H,Pv xs.length σ H->D.nx σ H) :
  ∃W:Nat->Nat->St->Hp->Prop,(∃m,W 0 m σ H)/\∀i m σ H,W i m σ H ->
   ((Hs K a).stop i H/\D.nx σ H)∨((Hs K a).go i H/\∃N:St->Hp->Prop,(∀σ' H',N σ' H'->∃m',m'<m/\W (i+1) m' σ' H')/\∀x H',(Hs K a).yld i H x H'->g x σ H' fun σ2 H2=>tb { D with nx:=N,ct:=N,bk:=D.nx } σ2 H2):=by
 refine⟨fun i m σ H=>m=xs.length-i/\i<=xs.length/\Pv i σ H,⟨xs.length,by simp,bR _,h0⟩,?_⟩;rintro i m σ H ⟨rfl,hi,p⟩;have q:=hl i σ H hi p;by_cases hlt:i<xs.length
 ·refine .inr ⟨⟨xs,xs[i],q,by simp[hlt]⟩,Pv (i+1),fun σ' H' p'=>⟨xs.length-(i+1),by omega,rfl,hlt,p'⟩,fun x H' y=>?_⟩;obtain⟨e,y⟩:=y;subst e;exact hs i x σ _ (y xs q) p
 ·have e:i=xs.length:=by omega
  subst e;exact .inl ⟨⟨xs,q,aN _⟩,hd σ H p⟩
theorem Gq{K:Za}{a:Addr}{xs:List V}{g:TG}{tb:TS}{D:il}{σ:St}{H:Hp}(Pv:Nat->St->Hp->Prop)(h0:Pv 0 σ H)(hl:∀i σ H,i<=xs.length->Pv i σ H->b_ K H a xs)
  (hs:∀i x σ H,xs[i]?=some x->Pv i σ H->g x σ H fun σ2 H2=>tb { D with nx:=Pv (i+1),ct:=Pv (i+1),bk:=D.nx } σ2 H2) (hd:∀σ H,Pv xs.length σ H->D.nx σ H) :
  ∃W:Nat->Nat->St->Hp->Prop,(∃m,W 0 m σ H)/\∀i m σ H,W i m σ H ->
   ((I_ K a).stop i H/\D.nx σ H)∨((I_ K a).go i H/\∃N:St->Hp->Prop,(∀σ' H',N σ' H'->∃m',m'<m/\W (i+1) m' σ' H')/\∀x H',(I_ K a).yld i H x H'->g x σ H' fun σ2 H2=>tb { D with nx:=N,ct:=N,bk:=D.nx } σ2 H2):=by
 refine⟨fun i m σ H=>m=xs.length-i/\i<=xs.length/\Pv i σ H,⟨xs.length,by simp,bR _,h0⟩,?_⟩;rintro i m σ H ⟨rfl,hi,p⟩;have q:=hl i σ H hi p;by_cases hlt:i<xs.length
 ·refine .inr ⟨⟨xs,xs[i],q,by simp[hlt]⟩,Pv (i+1),fun σ' H' p'=>⟨xs.length-(i+1),by omega,rfl,hlt,p'⟩,fun x H' y=>?_⟩;obtain⟨e,y⟩:=y;subst e;exact hs i x σ _ (y xs q) p
 ·have e:i=xs.length:=by omega
  subst e;exact .inl ⟨⟨xs,q,aN _⟩,hd σ H p⟩
theorem lS{lo:Int}{n:Nat}{g:TG}{tb:TS}{D:il}{σ:St}{H:Hp}(Pv:Nat->St->Hp->Prop)(h0:Pv 0 σ H)
  (hs:∀i σ H,i<n->Pv i σ H->g (.int (lo+i)) σ H fun σ2 H2=>tb { D with nx:=Pv (i+1),ct:=Pv (i+1),bk:=D.nx } σ2 H2) (hd:∀σ H,Pv n σ H->D.nx σ H) :
  ∃W:Nat->Nat->St->Hp->Prop,(∃m,W 0 m σ H)/\∀i m σ H,W i m σ H ->
   ((IS lo n).stop i H/\D.nx σ H)∨((IS lo n).go i H/\∃N:St->Hp->Prop,(∀σ' H',N σ' H'->∃m',m'<m/\W (i+1) m' σ' H')/\∀x H',(IS lo n).yld i H x H'->g x σ H' fun σ2 H2=>tb { D with nx:=N,ct:=N,bk:=D.nx } σ2 H2):=by
 refine⟨fun i m σ H=>m=n-i/\i<=n/\Pv i σ H,⟨n,by simp,bR _,h0⟩,?_⟩;rintro i m σ H ⟨rfl,hi,p⟩;by_cases hlt:i<n
 ·refine .inr ⟨hlt,Pv (i+1),fun σ' H' p'=>⟨n-(i+1),by omega,rfl,hlt,p'⟩,fun x H' y=>?_⟩;obtain⟨e,y⟩:=y;subst e y;exact hs i σ _ hlt p
 ·have e:i=n:=by omega
  subst e;exact .inl ⟨aN _,hd σ H p⟩
end L2
namespace L2
open PySem PySem.Spec PyProof.Rows
abbrev R2:=V->V->Hp->VK->Prop
def ml(X:Cx)(f:Value->Value->Sem Value)(r:R2):Prop :=
 ∀(J6:Zd) (s:Shared) (σ:St) (H:Hp) (x y:V) (v u:Value) (Q:VK),Inv X J6 σ H s->RelV x v->RelV y u->r x y H Q ->
  wpAny (model X.prog X.w) X.A (f v u) (EP X J6 σ Q) X.xe s
def UnR(X:Cx)(f:Value->Sem Value)(r:V->Hp->VK->Prop):Prop :=
 ∀(J6:Zd) (s:Shared) (σ:St) (H:Hp) (x:V) (v:Value) (Q:VK),Inv X J6 σ H s->RelV x v->r x H Q ->
  wpAny (model X.prog X.w) X.A (f v) (EP X J6 σ Q) X.xe s
def gS(X:Cx)(f:Value)(r:List V->Hp->VK->Prop):Prop :=
 ∀(J6:Zd) (s:Shared) (σ:St) (H:Hp) (xs:List V) (us:Zf) (Q:VK),Inv X J6 σ H s->bg xs us->r xs H Q ->
  wpAny (model X.prog X.w) X.A (call f us) (EP X J6 σ Q) X.xe s
def aK(r:R2)(ta tb:TE):TE:=fun σ H Q=>ta σ H fun x H1=>tb σ H1 fun y H2=>r x y H2 Q
def HD(r:V->Hp->VK->Prop)(ta:TE):TE:=fun σ H Q=>ta σ H fun x H1=>r x H1 Q
def rI(C:Int->Int->Prop)(g:Int->Int->V):R2:=fun x y H Q=>∃i j,x=.int i/\y=.int j/\C i j/\Q (g i j) H
def Bi(g:Int->Int->V):R2:=fun x y H Q=>∃i j,x=.int i/\y=.int j/\Q (g i j) H
def rU(g:Int->V):V->Hp->VK->Prop:=fun x H Q=>∃i,x=.int i/\Q (g i) H
section
variable{X:Cx}{a b c:Expr}{ta tb tc:TE}{pos:Pos}
theorem IF(ha:PE X a ta)(hb:PE X b tb){J6:Zd}{s:Shared}{σ:St}{H:Hp}{R:V->V->Hp->Prop}(I:Inv X J6 σ H s)
  (h:ta σ H fun x H1=>tb σ H1 fun y H2=>R x y H2) {Q:Zc}{f:Value->Value->Sem Value}
  (hf:∀v u s2 x y H2,Inv X J6 σ H2 s2->RelV x v->RelV y u->R x y H2->wpAny (model X.prog X.w) X.A (f v u) Q X.xe s2) :
  wpAny (model X.prog X.w) X.A (eval a X.env) (fun v s₁=>wpAny (model X.prog X.w) X.A (eval b X.env) (fun u s₂=>wpAny (model X.prog X.w) X.A (f v u) Q X.xe s₂) X.xe s₁) X.xe s:=by
 refine cM (ha J6 s σ H _ I h) fun v s1 ⟨x,H1,I1,r1,q1⟩=>?_;refine cM (hb J6 s1 σ H1 _ I1 q1) fun u s2 ⟨y,H2,I2,r2,q2⟩=>?_;exact hf v u s2 x y H2 I2 r1 r2 q2
theorem aJ{op:Operator}{r:R2}(ho:ml X (m9 op) r)(ha:PE X a ta)(hb:PE X b tb):PE X (.BinOp a op b pos) (aK r ta tb):=by
 intro J6 s σ H Q I h;exact wpAny_BinOp (IF ha hb I h fun v u s2 x y H2 I2 rx ry q=>ho J6 s2 σ H2 x y v u Q I2 rx ry q)
theorem uU{op:UnaryOp}{r:V->Hp->VK->Prop}(ho:UnR X (unaryOp op) r)(ha:PE X a ta):PE X (.UnaryOp op a pos) (HD r ta):=by
 intro J6 s σ H Q I h;exact UnaryOp_ (cM (ha J6 s σ H _ I h) fun v s1 ⟨x,H1,I1,r1,q1⟩=>ho J6 s1 σ H1 x v Q I1 r1 q1)
theorem JZ{f:Value->Value->Sem Value}{C:Int->Int->Prop}{g:Int->Int->Int}
  (rule:∀(i j:Int) (t u:Tok) (s:Shared) (Q:Zc) (E:Zc),C i j->Q (.int (g i j) s.toks) { s with toks:=s.toks+1 }->wpAny (model X.prog X.w) X.A (f (.int i t) (.int j u)) Q E s) :
  ml X f (rI C fun i j=>.int (g i j)):=by
 intro J6 s σ H x y v u Q I rx ry h;obtain⟨i,j,rfl,rfl,hc,q⟩:=h;obtain⟨t,rfl⟩:=rx;obtain⟨t',rfl⟩:=ry;exact rule i j t t' s _ _ hc ⟨.int (g i j),H,I.tok _,⟨_,rfl⟩,q⟩
theorem Jq{f:Value->Value->Sem Value}{g:Int->Int->Int}
  (rule:∀(i j:Int) (t u:Tok) (s:Shared) (Q:Zc) (E:Zc),Q (.int (g i j) s.toks) { s with toks:=s.toks+1 }->wpAny (model X.prog X.w) X.A (f (.int i t) (.int j u)) Q E s) :
  ml X f (Bi fun i j=>.int (g i j)):=by
 intro J6 s σ H x y v u Q I rx ry h;obtain⟨i,j,rfl,rfl,q⟩:=h;obtain⟨t,rfl⟩:=rx;obtain⟨t',rfl⟩:=ry;exact rule i j t t' s _ _ ⟨.int (g i j),H,I.tok _,⟨_,rfl⟩,q⟩
theorem Gj{f:Value->Value->Sem Value}{g:Int->Int->Bool}
  (rule:∀(i j:Int) (t u:Tok) (s:Shared) (Q:Zc) (E:Zc),Q (.bool (g i j)) s->wpAny (model X.prog X.w) X.A (f (.int i t) (.int j u)) Q E s) :
  ml X f (Bi fun i j=>.bl (g i j)):=by
 intro J6 s σ H x y v u Q I rx ry h;obtain⟨i,j,rfl,rfl,q⟩:=h;obtain⟨t,rfl⟩:=rx;obtain⟨t',rfl⟩:=ry;exact rule i j t t' s _ _ ⟨.bl (g i j),H,I,rfl,q⟩
def JT(i j:Int):Prop:=0<j/\j<1073741824
def JS(i j:Int):Prop:=0<=j/\j<=1000000/\i.natAbs<2 ^ 64
def Fx(i j:Int):Prop:=(-(2 ^ 64)<i/\i<2 ^ 64)∨(-(2 ^ 64)<j/\j<2 ^ 64)
theorem Fx.ok{i j:Int}(h:Fx i j):IntMulOk i j:=by
 rcases h with⟨h1,h2⟩|⟨h1,h2⟩
 ·exact .of_left (intBits_le_64 h1 h2)
 ·exact .of_right (intBits_le_64 h1 h2)
theorem c8:ml X (m9 .Add) (Bi fun i j=>.int (i+j)):=Jq fun _ _ _ _ _ _ _ q=>add_int q
theorem Er:ml X (m9 .Sub) (Bi fun i j=>.int (i-j)):=Jq fun _ _ _ _ _ _ _ q=>sub_int q
theorem iK:ml X (m9 .Mult) (rI Fx fun i j=>.int (i * j)):=JZ fun _ _ _ _ _ _ _ hc q=>mul_int q hc.ok
theorem Bq:ml X (m9 .FloorDiv) (rI JT fun i j=>.int (i / j)):=JZ fun i j _ _ _ _ _ hc q=>by
 have h1:(0:Int)<j:=hc.1;have h2:j<1073741824:=hc.2;exact floordiv_int (by omega) (by rw[Int.fdiv_eq_ediv_of_nonneg i (by omega)];exact q) (.inl (PyProof.noPylong_small (by omega)))
theorem gm:ml X (m9 .Mod) (rI (fun _ j=>0<j) fun i j=>.int (i % j)):=JZ fun i j _ _ _ _ _ hc q=>by
 have h1:(0:Int)<j:=hc;exact mod_int' (by omega) (by rw[Int.fmod_eq_emod_of_nonneg i (by omega)];exact q)
theorem Es:ml X (m9 .Pow) (rI JS fun i j=>.int (i ^ j.toNat)):=JZ fun _ _ _ _ _ _ _ hc q=>pow_int_small hc.1 hc.2.1 hc.2.2 q
theorem unI{f:Value->Sem Value}{g:Int->Int}
  (rule:∀(i:Int) (t:Tok) (s:Shared) (Q:Zc) (E:Zc),Q (.int (g i) s.toks) { s with toks:=s.toks+1 }->wpAny (model X.prog X.w) X.A (f (.int i t)) Q E s) :
  UnR X f (rU fun i=>.int (g i)):=by
 intro J6 s σ H x v Q I rx h;obtain⟨i,rfl,q⟩:=h;obtain⟨t,rfl⟩:=rx;exact rule i t s _ _ ⟨.int (g i),H,I.tok _,⟨_,rfl⟩,q⟩
theorem oW:UnR X (unaryOp .USub) (rU fun i=>.int (-i)):=unI fun _ _ _ _ _ q=>neg_int q
end
def Jj:V->V->Bool
 |.non,.non=>true | .non,.int _=>true | .int _,.non=>true | .non,.bl _=>true | .bl _,.non=>true | .non,.str _=>true | .str _,.non=>true
 |.int _,.int _=>true | .bl _,.bl _=>true | .str _,.str _=>true | .byt _,.byt _=>true
 |.int _,.str _=>true | .str _,.int _=>true | .bl _,.str _=>true | .str _,.bl _=>true
 |_,_=>false
def qJ:R2:=fun x y H Q=>Jj x y=true/\Q (.bl (decide (x=y))) H
def HS:R2:=fun x y H Q=>Jj x y=true/\Q (.bl (!decide (x=y))) H
theorem BN{i j:Int}:decide (V.int i=V.int j)=(i==j):=by
 rw[p9];simp
theorem Fj{i j:Bool}:decide (V.bl i=V.bl j)=(i==j):=by
 rw[p9];simp
theorem BL{i j:Str}:decide (V.str i=V.str j)=(i==j):=by
 rw[p9];simp
theorem BO{i j:Array UInt8}:decide (V.byt i=V.byt j)=(i.toList==j.toList):=by
 rw[p9];cases i;cases j;simp
section
variable{X:Cx}{a b c:Expr}{ta tb tc:TE}{pos:Pos}
theorem bQ{J6:Zd}{σ:St}{H:Hp}{s:Shared}{Q:VK}{k k':Bool}(I:Inv X J6 σ H s)(q:Q (.bl k) H)(e:k=k'):EP X J6 σ Q (.bool k') s:=by
 subst e;exact⟨.bl k,H,I,rfl,q⟩
theorem ej:ml X (eB .Eq) qJ:=by
 intro J6 s σ H x y v u Q I rx ry h;obtain⟨hs,q⟩:=h;cases x with
 |non =>
  cases rx;cases y with
  |non=>cases ry;exact PySem.EqNone.eq_none_none (bQ I q (by simp))
  |bl j=>cases ry;exact PySem.EqNone.eq_none_bool (bQ I q (by simp))
  |int j=>obtain⟨t',rfl⟩:=ry;exact PySem.EqNone.eq_none_int (bQ I q (by simp))
  |str j=>obtain⟨t',rfl⟩:=ry;exact PySem.EqNone.eq_none_str (bQ I q (by simp))
  |_=>exact absurd (show false=true from hs) jr
 |bl i =>
  cases rx;cases y with
  |non=>cases ry;exact PySem.EqNone.eq_bool_none (bQ I q (by simp))
  |bl j=>cases ry;exact eq_bool (bQ I q Fj)
  |str j=>obtain⟨t',rfl⟩:=ry;exact PySem.EqMixed.eq_bool_str (bQ I q (by simp))
  |_=>exact absurd (show false=true from hs) jr
 |int i =>
  obtain⟨t,rfl⟩:=rx;cases y with
  |non=>cases ry;exact PySem.EqNone.eq_int_none (bQ I q (by simp))
  |int j=>obtain⟨t',rfl⟩:=ry;exact eq_int (bQ I q BN)
  |str j=>obtain⟨t',rfl⟩:=ry;exact PySem.EqMixed.eq_int_str (bQ I q (by simp))
  |_=>exact absurd (show false=true from hs) jr
 |str i =>
  obtain⟨t,rfl⟩:=rx;cases y with
  |non=>cases ry;exact PySem.EqNone.eq_str_none (bQ I q (by simp))
  |bl j=>cases ry;exact PySem.EqMixed.eq_str_bool (bQ I q (by simp))
  |int j=>obtain⟨t',rfl⟩:=ry;exact PySem.EqMixed.eq_str_int (bQ I q (by simp))
  |str j=>obtain⟨t',rfl⟩:=ry;exact eq_str (bQ I q BL)
  |_=>exact absurd (show false=true from hs) jr
 |byt i =>
  obtain⟨t,rfl⟩:=rx;cases y with
  |byt j=>obtain⟨t',rfl⟩:=ry;exact PySem.W.eq_bytes (bQ I q BO)
  |_=>exact absurd (show false=true from hs) jr
 |_=>cases y<;>exact absurd (show false=true from hs) jr
theorem Bp:ml X (eB .NotEq) HS:=by
 intro J6 s σ H x y v u Q I rx ry h;obtain⟨hs,q⟩:=h;cases x with
 |non =>
  cases rx;cases y with
  |non=>cases ry;exact PySem.EqNone.ne_none_none (bQ I q (by simp))
  |bl j=>cases ry;exact PySem.EqNone.ne_none_bool (bQ I q (by simp))
  |int j=>obtain⟨t',rfl⟩:=ry;exact PySem.EqNone.ne_none_int (bQ I q (by simp))
  |str j=>obtain⟨t',rfl⟩:=ry;exact PySem.EqNone.ne_none_str (bQ I q (by simp))
  |_=>exact absurd (show false=true from hs) jr
 |bl i =>
  cases rx;cases y with
  |non=>cases ry;exact PySem.EqNone.ne_bool_none (bQ I q (by simp))
  |bl j=>cases ry;exact ne_bool (bQ I q (congrArg not Fj))
  |str j=>obtain⟨t',rfl⟩:=ry;exact PySem.EqMixed.ne_bool_str (bQ I q (by simp))
  |_=>exact absurd (show false=true from hs) jr
 |int i =>
  obtain⟨t,rfl⟩:=rx;cases y with
  |non=>cases ry;exact PySem.EqNone.ne_int_none (bQ I q (by simp))
  |int j=>obtain⟨t',rfl⟩:=ry;exact ne_int (bQ I q (congrArg not BN))
  |str j=>obtain⟨t',rfl⟩:=ry;exact PySem.EqMixed.ne_int_str (bQ I q (by simp))
  |_=>exact absurd (show false=true from hs) jr
 |str i =>
  obtain⟨t,rfl⟩:=rx;cases y with
  |non=>cases ry;exact PySem.EqNone.ne_str_none (bQ I q (by simp))
  |bl j=>cases ry;exact PySem.EqMixed.ne_str_bool (bQ I q (by simp))
  |int j=>obtain⟨t',rfl⟩:=ry;exact PySem.EqMixed.ne_str_int (bQ I q (by simp))
  |str j=>obtain⟨t',rfl⟩:=ry;exact ne_str (bQ I q (congrArg not BL))
  |_=>exact absurd (show false=true from hs) jr
 |byt i =>
  obtain⟨t,rfl⟩:=rx;cases y with
  |byt j=>obtain⟨t',rfl⟩:=ry;exact PySem.W.ne_bytes (bQ I q (congrArg not BO))
  |_=>exact absurd (show false=true from hs) jr
 |_=>cases y<;>exact absurd (show false=true from hs) jr
theorem sS:ml X (eB .Lt) (Bi fun i j=>.bl (decide (i<j))):=Gj fun _ _ _ _ _ _ _ q=>lt_int q
theorem Eu:ml X (eB .LtE) (Bi fun i j=>.bl (decide (i<=j))):=Gj fun _ _ _ _ _ _ _ q=>le_int q
theorem uZ:ml X (eB .Gt) (Bi fun i j=>.bl (decide (j<i))):=Gj fun _ _ _ _ _ _ _ q=>gt_int q
theorem Jp:ml X (eB .GtE) (Bi fun i j=>.bl (decide (j<=i))):=Gj fun _ _ _ _ _ _ _ q=>ge_int q
theorem Cw:ml X (eB .In) (fun x y H Q=>∃i j,x=.str i/\y=.str j/\Q (.bl (!(cO.Str.occurrences j i 0 j.length 1).isEmpty)) H):=by
 intro J6 s σ H x y v u Q I rx ry h;obtain⟨i,j,rfl,rfl,q⟩:=h;obtain⟨t,rfl⟩:=rx;obtain⟨t',rfl⟩:=ry;exact in_str (bQ I q rfl)
theorem Ez(b:Expr){op:CmpOp}(h:op≠.In:=by decide)(h2:op≠.NotIn:=by decide):j9 op b=false:=by
 have e1:(op==CmpOp.In)=false:=by cases op<;>first|rfl|exact absurd rfl h
 have e2:(op==CmpOp.NotIn)=false:=by cases op<;>first|rfl|exact absurd rfl h2
 cases b<;>simp[j9,e1,e2]
theorem Bn{op:CmpOp}{r:R2}(ho:ml X (eB op) r)(ha:PE X a ta)(hb:PE X b tb)(hm:j9 op b=false):PE X (.Compare a [op] [b] pos) (aK r ta tb):=by
 intro J6 s σ H Q I h;exact wpAny_Compare1 (IF ha hb I h fun v u s2 x y H2 I2 rx ry q=>ho J6 s2 σ H2 x y v u Q I2 rx ry q) hm
def bx(t:TE):TT:=fun σ H Q=>t σ H fun x H'=>∃k,x=.bl k/\Q k H'
theorem Bj{op:CmpOp}{r:R2}(ho:ml X (eB op) r)(ha:PE X a ta)(hb:PE X b tb)(hm:j9 op b=false):PT X (.Compare a [op] [b] pos) (bx (aK r ta tb)):=by
 intro J6 s σ H Q I h;refine wpAny_isTrue_Compare1 (cM (ha J6 s σ H _ I h) fun v s1 ⟨x,H1,I1,r1,q1⟩=>cM (hb J6 s1 σ H1 _ I1 q1) fun u s2 ⟨y,H2,I2,r2,q2⟩ =>
  cM (ho J6 s2 σ H2 x y v u _ I2 r1 r2 q2) fun c s3 ⟨z,H3,I3,r3,k,e,q3⟩=>?_) hm
 subst e;cases r3;exact nh ⟨H3,I3,q3⟩
def Dy(r r':R2)(ta tb tc:TE):TE:=fun σ H Q=>ta σ H fun x H1=>tb σ H1 fun y H2=>r x y H2 fun z H3=>∃k,z=.bl k /\
 (if k=true then tc σ H3 fun w' H4=>r' y w' H4 Q else Q (.bl false) H3)
theorem Ek{op op':CmpOp}{r r':R2}(ho:ml X (eB op) r)(ho':ml X (eB op') r')(ha:PE X a ta)(hb:PE X b tb)(hc:PE X c tc)
  (hm:lastMarks [op,op'] [b,c]=false:=by with_unfolding_all rfl):PE X (.Compare a [op,op'] [b,c] pos) (Dy r r' ta tb tc):=by
 intro J6 s σ H Q I h;refine Compare_chain (cM (ha J6 s σ H _ I h) fun v s1 ⟨x,H1,I1,r1,q1⟩=>chain_link (cM (hb J6 s1 σ H1 _ I1 q1) fun u s2 ⟨y,H2,I2,r2,q2⟩ =>
  cM (ho J6 s2 σ H2 x y v u _ I2 r1 r2 q2) fun d s3 ⟨z,H3,I3,r3,k,e,q3⟩=>?_)) hm
 subst e;cases r3;refine nh ?_;cases k with
 |false=>exact ite_ff ⟨.bl false,H3,I3,rfl,q3⟩
 |true=>exact ite_tt (chain_last (cM (hc J6 s3 σ H3 _ I3 q3) fun w' s4 ⟨z',H4,I4,r4,q4⟩=>ho' J6 s4 σ H4 y z' u w' Q I4 r2 r4 q4))
theorem pE:(aj:Nat)<2 ^ 63:=by rw[AO];decide
theorem bh:ml X (m9 .Add) (fun x y H Q=>∃i j,x=.str i/\y=.str j/\i.length+j.length<=aj/\Q (.str (i++j)) H):=by
 intro J6 s σ H x y v u Q I rx ry h;obtain⟨i,j,rfl,rfl,hz,q⟩:=h;obtain⟨t,rfl⟩:=rx;obtain⟨t',rfl⟩:=ry;exact add_str (fun t' tk=>⟨.str (i++j),H,I.tok _,⟨_,rfl⟩,q⟩) hz
theorem vals1{x:V}{us:Zf}(r:bg [x] us):∃u,us=[u]/\RelV x u:=by
 cases r with
 |cons r1 r2=>cases r2;exact⟨_,rfl,r1⟩
theorem vals2{x y:V}{us:Zf}(r:bg [x,y] us):∃u w',us=[u,w']/\RelV x u/\RelV y w':=by
 cases r with
 |cons r1 r2 =>
  cases r2 with
  |cons r3 r4=>cases r4;exact⟨_,_,rfl,r1,r3⟩
end
end L2
namespace L2
open PySem PySem.Spec PyProof.Rows
structure AB(h:Heap)(x dx C:Addr)(mA:Str->Option Value):Prop where
 obj:h.get? x=some (qg C dx)
 ns:h.Ns1 dx mA
 ne:dx≠x
theorem pD{h:Heap}{dx:Addr}{mA:Str->Option Value}(n:h.Ns1 dx mA):∃od,h.get? dx=some od/\∀name,AN name od=some (mA name):=by
 obtain⟨o,es,ep,ho,hd,hk,_,hm⟩:=n;refine⟨o,ho,fun name=>?_⟩;have e:=hm name;unfold nsFind findBy at e;rw[<-Array.find?_toList]at e;unfold AN;rw[hd];dsimp only;split
 ·rename_i y q;rw[q]at e;exact congrArg some e
 ·rename_i q;rw[q]at e;have a:es.toList.any (·.refKey)=false:=by
   rw[List.any_eq_false];intro y hy;obtain⟨z,t,hkey⟩:=hk y (Array.mem_toList_iff.mp hy);simp[DictEntry.refKey,hkey]
  have a':¬es.toList.any (·.refKey)=true:=by rw[a];exact jr
  rw[if_neg a'];exact congrArg some e
theorem AB.look{h:Heap}{x dx C:Addr}{mA:Str->Option Value}(I:AB h x dx C mA):∃od,PySem.W.InstAt h x (qg C dx) C (some od)/\∀name,AN name od=some (mA name) :=
 let⟨od,ho,hl⟩:=pD I.ns
 ⟨od,⟨I.obj,rfl,rfl,ho⟩,hl⟩
section
variable{prog:bB}{w:World}{A:Around}{E:Zc}{s:Shared}{K:Za}{x dx C f:Addr}{mA:Str->Option Value}{name:Str}{v:Value}
theorem Go{expr:Bool}{Q:Zc}(X:K.In s.heap)(I:AB s.heap x dx C mA)(hg:xN K C name=true)(hh:AM K C=true)
  (ha:bW K (.ref C) name=some none) (hv:mA name=some v) (hv':PySem.W.handedIn v=true) (h:Q v { s with toks:=s.toks+1 }) :
  wpAny (model prog w) A (xM (.ref x) name expr) Q E s:=by
 obtain⟨od,J,hl⟩:=I.look;exact PySem.W.get_value X J (PySem.W.plainGet_of hg).1 (PySem.W.findObj_own hh ha rfl (by rw[hl,hv])) hv' h
theorem EX{pl:Sem Bool}{Q:Value×List Value->Shared->Prop}(X:K.In s.heap)(I:AB s.heap x dx C mA)(hg:xN K C name=true)
  (hf:bW K (.ref C) name=some (some (.ref f))) (ht:m8 K (.ref f)=true) (hv:mA name=none) (h:Q (.ref f,[.ref x]) s) :
  wpAny (model prog w) A (uD (.ref x) name pl) Q E s:=by
 obtain⟨od,J,hl⟩:=I.look;exact PySem.W.method_fn X J (PySem.W.plainGet_of hg).1 (PySem.W.plainGet_of hg).2 hf (beq_iff_eq.mp ht) (by show(AN name od).map (·.isSome)=some false;rw[hl,hv];rfl) h
theorem FU{ns:Zb}{Q:Unit->Shared->Prop}(X:K.In s.heap)(I:AB s.heap x dx C mA)
  (hs:bW K (.ref C) "__setattr__"=some (some (.builtin "object.__setattr__"))) (hp:PySem.W.plainOver K C=true) (ht:PySem.W.takerIn K C name=some none) (hh:AM K C=true)
  (hw:xP mA ns) (hsz:ns.length<=aj)
  (h:∀h',AB h' x dx C (fun y=>if y=name then some v else mA y)->js dx s.heap h'->Q () { s with heap:=h',toks:=s.toks+2 }) :
  wpAny (model prog w) A (setAttr (.ref x) name v) Q E s:=by
 obtain⟨od,J,hl⟩:=I.look;refine PySem.W.set_plain X J hs (PySem.W.osa_open (s:={ s with toks:=s.toks+1 }) (r:=none) X J hp ht fun b=>?_);obtain⟨cd,hc,hd'⟩:=PySem.W.any_some hh;have hx:s.heap.get? x=some ⟨.ref C,some dx,.plain,#[]⟩:=I.obj;refine ao (a_ (ao (ao (wpAny_loadPart hx (ao (PySem.W.Looks.here (s:={ s with toks:=s.toks+1 }) (PySem.W.looks_clsIn X hc) ?_))))));rw[hd'];refine a_ (a:=some dx) (ao (a_ (ao ?_)));refine wpAny_nsSet1 (s:={ s with toks:=s.toks+1 }) I.ns fun h' hn2 hs2=>?_;obtain⟨oD,esD,epD,hoD,hdD,hcD⟩:=hn2.count (xP.cons name v hw);refine ao (wpAny_lookBehind hoD (by rw[hdD];exact pastItsLine_dict (bj hcD (by rw[cw];omega))) ?_);exact a_ (h _ ⟨(hs2.2 _ (cW I.ne)).trans I.obj,hn2,I.ne⟩ hs2)
theorem EK{R:Result->Shared->Prop}{vs:Zf}{kw:List (Str×Value)}(X:K.In s.heap)(hm:uC K C=true)
  (hi:bW K (.ref C) "__init__"=some (some (.ref f))) (hf:PySem.W.typeIn K (.ref f)=some (.type "function"))
  (h:zzl83 (model prog w) (A.under (.builtin "type.__call__" ⟨.ref C::vs,kw⟩)) (.call (.ref f) ⟨.ref (s.heap.objs.size+1)::vs,kw⟩) (PySem.W.InitBack (s.heap.objs.size+1) R)
   { s with heap:=(s.heap.push m7).push (qg C s.heap.objs.size) }) :
  zzl83 (model prog w) A (.call (.ref C) ⟨vs,kw⟩) R s:=by
 obtain⟨hh,g,d,t,os⟩:=s;exact PySem.W.make_core (PySem.W.makes_of X hm) (PySem.W.looks_findIn X hi) (fun self=>PySem.W.bind_fn X self hf) (.inl rfl) h
end
def c7(f:Str)(v:V):List (Str×V)->List (Str×V)
 |[]=>[(f,v)]
 | (g,x)::r=>if g=f then(g,v)::r else(g,x)::c7 f v r
theorem eG(f g:Str)(v:V):∀fs:List (Str×V),(c7 f v fs).lookup g=if g=f then some v else fs.lookup g
 |[]=>by
  show iW g [(f,v)]=_;by_cases h:g=f
  ·have hb:(g==f)=true:=beq_iff_eq.mpr h;simp only[iW,hb,if_pos h]
  ·have hb:(g==f)=false:=beq_eq_false_iff_ne.mpr h;simp only[iW,hb,if_neg h]
 | (k,x)::r=>by
  have ih:=eG f g v r;rw[show c7 f v ((k,x)::r)=(if k=f then(k,v)::r else(k,x)::c7 f v r)from rfl]
  by_cases hk:k=f
  ·rw[if_pos hk];by_cases h:g=k
   ·have hb:(g==k)=true:=beq_iff_eq.mpr h;simp only[iW,hb,if_pos (h.trans hk)]
   ·have hb:(g==k)=false:=beq_eq_false_iff_ne.mpr h;simp only[iW,hb,if_neg (fun e:g=f=>h (e.trans hk.symm))]
  ·rw[if_neg hk];by_cases h:g=k
   ·have hb:(g==k)=true:=beq_iff_eq.mpr h;simp only[iW,hb,if_neg (fun e:g=f=>hk (h.symm.trans e))]
   ·have hb:(g==k)=false:=beq_eq_false_iff_ne.mpr h;simp only[iW,hb];exact ih
theorem pH(f:Str)(v:V):∀fs:List (Str×V),f∈(c7 f v fs).map (·.1)/\∀g,g∈fs.map (·.1)->g∈(c7 f v fs).map (·.1)
 |[]=>⟨by simp[c7],fun g h=>by simp at h⟩
 | (k,x)::r=>by
  obtain⟨i1,i2⟩:=pH f v r;rw[show c7 f v ((k,x)::r)=(if k=f then(k,v)::r else(k,x)::c7 f v r)from rfl]
  by_cases hk:k=f
  ·rw[if_pos hk];subst hk;exact⟨by simp,fun g h=>by simpa using h⟩
  ·rw[if_neg hk];refine⟨?_,fun g h=>?_⟩
   ·rw[bf];exact cj _ i1
   ·rw[bf]at h ⊢;rcases bw.mp h with e|e
    ·exact bw.mpr (.inl e)
    ·exact cj _ (i2 g e)
theorem qm(f:Str)(v:V):∀fs:List (Str×V),(c7 f v fs).length<=fs.length+1
 |[]=>by simp[c7]
 | (k,x)::r=>by
  have ih:=qm f v r;rw[show c7 f v ((k,x)::r)=(if k=f then(k,v)::r else(k,x)::c7 f v r)from rfl]
  by_cases hk:k=f
  ·rw[if_pos hk,cw,cw];omega
  ·rw[if_neg hk,cw,cw];omega
theorem iN.some_of{v:V}{o:Option Value}(r:iN (some v) o):∃u,o=some u/\RelV v u:=by
 cases o with
 |none=>exact(show False from r).elim
 |some u=>exact⟨u,rfl,r⟩
theorem iN.none_of{o:Option Value}(r:iN none o):o=none:=by
 cases o with
 |none=>rfl
 |some u=>exact(show False from r).elim
theorem u9{v:V}{u:Value}(r:RelV v u):PySem.W.handedIn u=true:=by
 cases v with
 |non=>cases(show u=Value.none from r);rfl
 |bl b=>cases(show u=Value.bool b from r);rfl
 |int i=>obtain⟨t,e⟩:=(show ∃t,u=Value.int i t from r);cases e;rfl
 |str x=>obtain⟨t,e⟩:=(show ∃t,u=Value.str x t from r);cases e;rfl
 |byt b=>obtain⟨t,e⟩:=(show ∃t,u=Value.bytes b t from r);cases e;rfl
 |flt b=>obtain⟨t,e⟩:=(show ∃t,u=Value.float b t from r);cases e;rfl
 |ref a=>cases(show u=Value.ref a from r);rfl
 |ty n=>cases(show u=Value.type n from r);rfl
section
variable{P:bB}{w:World}{H H':Hp}{h h':Heap}{a C dx:Addr}{fs fs':List (Str×V)}
theorem rj{K:Za}(hok:ki P w K H h)(e:H a=some (.ins C dx fs)):∃mA,AB h a dx C mA/\(∀f,iN (fs.lookup f) (mA f))/\xP mA (fs.map (·.1))/\fs.length<=1000/\H dx=some (.own a):=by
 obtain⟨d,z,ne,ob,mA,n,r,q⟩:=(show cL P w K H h a (.ins C dx fs)from hok a _ e);exact⟨mA,⟨ob,n,ne⟩,r,q,z,d⟩
end
structure Db(K:Za)(C:Addr):Prop where
 pg:xN K C Str.empty=true
 hd:AM K C=true
 po:PySem.W.plainOver K C=true
 sa:bW K (.ref C) "__setattr__"=some (some (.builtin "object.__setattr__"))
theorem Db.get{K:Za}{C:Addr}(c:Db K C)(f:Str):xN K C f=true:=c.pg
def c9(K:Za)(C:Addr)(f:Str):Prop:=bW K (.ref C) f=some none
theorem c9.taker{K:Za}{C:Addr}{f:Str}(n:c9 K C f):PySem.W.takerIn K C f=some none:=by
 unfold PySem.W.takerIn;rw[show bW K (.ref C) f=some none from n]
 rfl
structure IR(K:Za)(C:Addr)(m:Str)(f:Addr):Prop where
 at_:bW K (.ref C) m=some (some (.ref f))
 fn:m8 K (.ref f)=true
 kp:eh K (.ref f)=true
section
variable{X:Cx}{J6:Zd}{σ:St}{H:Hp}{s:Shared}{a C dx:Addr}{fs:List (Str×V)}{f:Str}{v:V}{A:Around}{E:Zc}
theorem Ap{b:Bool}{Q:Zc}(I:Inv X J6 σ H s)(e:H a=some (.ins C dx fs))(c:Db X.K C)(n:c9 X.K C f)(l:fs.lookup f=some v)
  (h:∀u s',Inv X J6 σ H s'->RelV v u->Q u s'):wpAny (model X.prog X.w) A (xM (.ref a) f b) Q E s:=by
 obtain⟨mA,O,r,_,_,_⟩:=rj I.hok e;obtain⟨u,hu,ru⟩:=iN.some_of (v:=v) (o:=mA f) (by rw[<-l];exact r f);exact Go I.kIn O (c.get f) c.hd n hu (u9 ru) (h u _ (I.tok _) ru)
theorem Ao{m:Str}{g:Addr}{pl:Sem Bool}{Q:Value×List Value->Shared->Prop}(I:Inv X J6 σ H s)(e:H a=some (.ins C dx fs))(c:Db X.K C)(k:IR X.K C m g)(l:fs.lookup m=none)
  (h:Q (.ref g,[.ref a]) s):wpAny (model X.prog X.w) A (uD (.ref a) m pl) Q E s:=by
 obtain⟨mA,O,r,_,_,_⟩:=rj I.hok e;have hn:mA m=none:=iN.none_of (by rw[<-l];exact r m);exact EX I.kIn O (c.get m) k.at_ k.fn hn h
theorem zP{y:V}{u:Value}{Q:Unit->Shared->Prop}(I:Inv X J6 σ H s)(e:H a=some (.ins C dx fs))(c:Db X.K C)(n:c9 X.K C f)(hl:fs.length<1000)(ry:RelV y u)
  (h:∀s',Inv X J6 σ (upd H a (.ins C dx (c7 f y fs))) s'->Q () s'):wpAny (model X.prog X.w) A (setAttr (.ref a) f u) Q E s:=by
 obtain⟨mA,O,r,wi,_,ho⟩:=rj I.hok e;have hz:(fs.map (·.1)).length<=aj:=by rw[am,AO];omega
 refine FU I.kIn O c.sa c.po n.taker c.hd wi hz fun h' O' sb=>h _ ?_;have hd:∃o,h'.get? dx=some o:=let⟨o,_,_,e',_⟩:=O'.ns;⟨o,e'⟩;refine I.write (x:=a) (e:=dx) (by rw[e];exact eg) (.inr ho) (fun b q hb z=>(sb.2 b hb).trans z) hd ?_;refine⟨by rw[ai O.ne];exact ho,?_,O.ne,O'.obj,_,O'.ns,fun g=>?_,fun g hg=>?_⟩
 ·have:=qm f y fs;omega
 ·show iN ((c7 f y fs).lookup g) (if g=f then some u else mA g)
  rw[eG];by_cases q:g=f
  ·rw[if_pos q,if_pos q];exact ry
  ·rw[if_neg q,if_neg q];exact r g
 ·by_cases q:g=f
  ·rw[q];exact(pH f y fs).1
  ·refine(pH f y fs).2 g (wi g fun z=>hg ?_);show(if g=f then some u else mA g)=none
   rw[if_neg q];exact z
theorem Inv.made(I:Inv X J6 σ H s):Inv X J6 σ (upd (upd H s.heap.objs.size (.own (s.heap.objs.size+1))) (s.heap.objs.size+1) (.ins C s.heap.objs.size []))
  { s with heap:=(s.heap.push m7).push (qg C s.heap.objs.size) }:=by
 have e1:(s.heap.push m7).get? s.heap.objs.size=some m7:=dz s.heap rfl;have e2:((s.heap.push m7).push (qg C s.heap.objs.size)).get? (s.heap.objs.size+1)=some (qg C s.heap.objs.size):=by
  have:=dz (s.heap.push m7) (o:=qg C s.heap.objs.size) rfl;rwa[kq]at this
 have e3:(s.heap.push m7).Ns s.heap.objs.size (fun _=>none):=⟨m7,#[],_,e1,rfl,(fun e he=>absurd he (by simp)),fun _=>rfl⟩;have I1:=I.laid (a:=s.heap.objs.size) (o:=.own (s.heap.objs.size+1)) (h':=s.heap.push m7) (t':=s.toks) (fun b u q=>bb _ q) (aN _) ⟨_,e1⟩;refine I1.laid (a:=s.heap.objs.size+1) (o:=.ins C s.heap.objs.size []) (t':=s.toks) (fun b u q=>bb _ q) (Nat.le_of_eq (kq _ _)) ?_;have ne:s.heap.objs.size≠s.heap.objs.size+1:=cx (Nat.lt_succ_self _);refine⟨by rw[ai ne,aa],bR _,ne,e2,fun _=>none,(Heap.Ns1.of_empty e3).at fun o q=>bb _ q,fun _=>eg,fun y hy=>absurd rfl hy⟩
theorem BP{prog:bB}{w:World}{env:Env}{e:Expr}{f:Str}{pos:Pos}{s:Shared}{Q:Zc}(hb:uB e f env (eval e env)=eval e env)
  (h:wpAny (model prog w) A (eval e env) (fun o s₁=>wpAny (model prog w) A (xM o f true) Q E s₁) E s):wpAny (model prog w) A (eval (.Attribute e f pos) env) Q E s :=
 Attribute_any_ h (by rw[arm_eval_Attribute,hb])
end
def xZ(K:Za)(ta:TE)(f:Str):TE:=fun σ H Q=>ta σ H fun x H1=>∃a C dx fs v,x=.ref a/\H1 a=some (.ins C dx fs)/\Db K C/\c9 K C f/\fs.lookup f=some v/\Q v H1
def wj(K:Za)(ta tv:TE)(f:Str):TS:=fun D σ H=>tv σ H fun y H1=>ta σ H1 fun x H2=>∃a C dx fs,x=.ref a/\H2 a=some (.ins C dx fs)/\Db K C/\c9 K C f/\fs.length<1000 /\
 D.nx σ (upd H2 a (.ins C dx (c7 f y fs)))
section
variable{X:Cx}{o e value:Expr}{f:Str}{pos pos' U1:Pos}{ta tv:TE}
theorem mJ(he:PE X e ta)(hb:uB e f X.env (eval e X.env)=eval e X.env):PE X (.Attribute e f pos) (xZ X.K ta f):=by
 intro J6 s σ H Q I h;refine BP hb (cM (he J6 s σ H _ I h) fun u s1 ⟨x,H1,I1,rx,a,C,dx,fs,v,ex,ea,c,n,l,q⟩=>?_);subst ex;obtain rfl:u=Value.ref a:=rx;exact Ap I1 ea c n l fun u' s2 I2 ru=>⟨v,H1,I2,ru,q⟩
theorem kU(ha:PE X o ta)(hv:PE X value tv)(hs:l_ value (some (.Attribute o f pos')) pos.line X.env=pure false):PS X (.Assign [.Attribute o f pos'] value pos) (wj X.K ta tv f):=by
 intro J6 s σ H D I h;refine plainObj_wpAny_Assign_Attribute (cM (hv J6 s σ H _ I h) fun u s1 ⟨y,H1,I1,ry,q⟩=>cM (ha J6 s1 σ H1 _ I1 q) fun ov s2 ⟨x,H2,I2,rx,a,C,dx,fs,ex,ea,c,n,l,q2⟩=>?_) hs;subst ex;obtain rfl:ov=Value.ref a:=rx;exact zP I2 ea c n l ry fun s3 I3=>⟨σ,_,I3,q2⟩
end
section
variable{X:Cx}{J6:Zd}{σ:St}{H:Hp}{s:Shared}{A:Around}{E:Zc}{Q:Zc}{c:Value}{b:Bool}
inductive mR(K:Za)(H:Hp):V->Value->Prop where
 |non:mR K H .non (.type "NoneType")
 |bl (x:Bool):mR K H (.bl x) (.type "bool")
 |int (i:Int):mR K H (.int i) (.type "int")
 |str (x:Str):mR K H (.str x) (.type "str")
 |flt (x:UInt64):mR K H (.flt x) (.type "float")
 |lst {a:Addr}{xs:List V}(e:H a=some (.lst xs)):mR K H (.ref a) (.type "list")
 |frz {a:Addr}{o:Obj}{xs:List V}(e:H a=some (.frz o (.lst xs))):mR K H (.ref a) (.type "list")
 |tup {a:Addr}{xs:List V}(e:H a=some (.tup xs)):mR K H (.ref a) (.type "tuple")
 |dK {a:Addr}{kvs:List (d9×V)}(e:H a=some (.dK kvs)):mR K H (.ref a) (.type "dict")
 |dT {a:Addr}{kvs:List (TK×V)}(e:H a=some (.dT kvs)):mR K H (.ref a) (.type "dict")
 |ins {a C dx:Addr}{fs:List (Str×V)}(e:H a=some (.ins C dx fs)) (cl:Db K C) (ha:bW K (.ref C) "__class__"=some (some (.builtin "object.__class__")))
   (hn:AL K (.builtin "object.__class__") "__get__"=some (some (.builtin "getset_descriptor.__get__"))) (htk:PySem.W.takesIn K (.builtin "object.__class__")=some true)
   (hm:PySem.W.mroIn K C (.type "object")=some true):mR K H (.ref a) (.ref C)
theorem CF{x:V}{u t:Value}(I:Inv X J6 σ H s)(rx:RelV x u)(ty:mR X.K H x t)(e:xL X.K t c=some b)(h:∀tk,Q (.bool b) { s with toks:=tk }):
  wpAny (model X.prog X.w) A (call (.builtin "isinstance") [u,c]) Q E s:=by
 cases ty with
 |non=>cases(show u=Value.none from rx);exact jq PySem.W.kitx_none I.kIn eg e (fun z=>nomatch z) h
 |bl y=>cases(show u=Value.bool y from rx);exact jq PySem.W.kitx_bool I.kIn eg e (fun z=>nomatch z) h
 |int i=>obtain⟨t,q⟩:=(show ∃t,u=Value.int i t from rx);cases q;exact jq PySem.W.kitx_int I.kIn eg e (fun z=>nomatch z) h
 |str y=>obtain⟨t,q⟩:=(show ∃t,u=Value.str y t from rx);cases q;exact jq PySem.W.kitx_str I.kIn eg e (fun z=>nomatch z) h
 |flt y=>obtain⟨t,q⟩:=(show ∃t,u=Value.float y t from rx);cases q;exact jq PySem.W.kitx_float I.kIn eg e (fun z=>nomatch z) h
 |@lst a xs ea =>
  cases(show u=Value.ref a from rx);obtain⟨_,_,n,_,h1⟩:=(show cL X.prog X.w X.K H s.heap a (.lst xs)from I.hok a _ ea);exact jq PySem.W.kitx_list I.kIn ⟨_,h1,rfl⟩ e (fun z=>nomatch z) h
 |@frz a ob xs ea =>
  cases(show u=Value.ref a from rx);obtain⟨_,_,_,n,_,h1⟩:=(show cL X.prog X.w X.K H s.heap a (.frz ob (.lst xs))from I.hok a _ ea);exact jq PySem.W.kitx_list I.kIn ⟨_,h1,rfl⟩ e (fun z=>nomatch z) h
 |@tup a xs ea =>
  cases(show u=Value.ref a from rx);obtain⟨_,_,_,p⟩:=(show cL X.prog X.w X.K H s.heap a (.tup xs)from I.hok a _ ea);obtain⟨o,h1,h2,_⟩:=p;exact jq PySem.W.kitx_tuple I.kIn ⟨o,h1,h2⟩ e (fun z=>nomatch z) h
 |@dK a kvs ea =>
  cases(show u=Value.ref a from rx);obtain⟨_,_,vs,_,p⟩:=(show cL X.prog X.w X.K H s.heap a (.dK kvs)from I.hok a _ ea);obtain⟨o,es,ep,h1,h2,_⟩:=p;exact jq PySem.W.kitx_dict I.kIn ⟨o,h1,h2.1⟩ e (fun z=>nomatch z) h
 |@dT a kvs ea =>
  cases(show u=Value.ref a from rx);obtain⟨_,_,xs,_,o,es,ep,h1,h2,_⟩:=(show cL X.prog X.w X.K H s.heap a (.dT kvs)from I.hok a _ ea);exact jq PySem.W.kitx_dict I.kIn ⟨o,h1,h2.1⟩ e (fun z=>nomatch z) h
 |@ins a C dx fs ea cl ha hn htk hm =>
  cases(show u=Value.ref a from rx);obtain⟨mA,O,_⟩:=rj I.hok ea;obtain⟨od,J,_⟩:=O.look;exact jq (PySem.W.kitx_own (cl.get _) cl.hd ha hn htk hm) I.kIn J e (fun z=>nomatch z) h
end
end L2
namespace L2
open PySem PySem.Spec PyProof.Rows
structure du(k:Nat)(A:Around):Prop where
 hd:A.handled=none
 dp:A.depth+3 * k+5<recursionLimit
 un:A.units+16 * k+200<cLine
theorem du.mono{j k:Nat}{A:Around}(r:du k A)(h:j<=k):du j A:=⟨r.hd,by have:=r.dp;omega,by have:=r.un;omega⟩
theorem du.deeper{k:Nat}{A:Around}(r:du (k+1) A)(env:Env):du k (A.deeper env) :=
 ⟨r.hd,by have:=r.dp;show A.depth+1+3 * k+5<_;omega,by have:=r.un;show A.units+3+16 * k+200<_;omega⟩
theorem Ae{A:Around}{C:Addr}{us:Zf}{kw:List (Str×Value)}:(A.under (.builtin "type.__call__" ⟨.ref C::us,kw⟩)).depth=A.depth+1:=by
 first|rfl|simp[Around.under,Code.weight,Code.isCreation,Code.isGuard,Code.isCaller,Code.frames,Code.isFrame,guardIds]
theorem Ad{A:Around}{C:Addr}{us:Zf}{kw:List (Str×Value)}:(A.under (.builtin "type.__call__" ⟨.ref C::us,kw⟩)).units=A.units+1:=by
 first|rfl|simp[Around.under,Code.cUnits,Code.frames,Code.isFrame]
theorem du.make{k:Nat}{A:Around}(r:du (k+1) A)(C:Addr)(us:Zf)(kw:List (Str×Value)):du k (A.under (.builtin "type.__call__" ⟨.ref C::us,kw⟩)) :=
 ⟨r.hd,by have:=r.dp;rw[Ae];omega,by have:=r.un;rw[Ad];omega⟩
theorem du.depth{k:Nat}{A:Around}(r:du k A):A.depth<recursionLimit:=by have:=r.dp;omega
theorem du.units{k:Nat}{A:Around}(r:du k A):A.units+64<cLine:=by have:=r.un;omega
def bF:TA:=fun _ H Q=>Q [] H
def az(ta:TE)(tr:TA):TA:=fun σ H Q=>ta σ H fun x H1=>tr σ H1 fun xs H2=>Q (x::xs) H2
abbrev aE(a:TE):TA:=az a bF
abbrev ba(a b:TE):TA:=az a (az b bF)
abbrev gH(a b c:TE):TA:=az a (az b (az c bF))
section
variable{X:Cx}{e:Expr}{es:List Expr}{te:TE}{t:TA}{pos:Pos}
theorem fu:PA X [] bF:=fun _ _ _ _ H Q I h=>Calls.spliced_nil ⟨[],H,I,.nil,h⟩
theorem cc(ha:PE X e te)(hr:PA X es t)(hs:aB (e::es) X.env=(false,eval e X.env)::aB es X.env:=by rfl):PA X (e::es) (az te t):=by
 intro pos J6 s σ H Q I h;rw[hs];show wpAny _ _ (spliced ((false,eval e X.env)::backTo pos (aB es X.env))) _ _ s;refine Calls.spliced_cons (cM (ha J6 s σ H _ I h) fun u s1 ⟨x,H1,I1,r1,q1⟩=>?_);exact cM (hr pos J6 s1 σ H1 _ I1 q1) fun us s2 ⟨xs,H2,I2,r2,q2⟩=>⟨x::xs,H2,I2,.cons r1 r2,q2⟩
def dZ(t:TA):TE:=fun σ H Q=>t σ H fun xs H1=>xs.length<=aj/\∀p,H1 p=none->Q (.ref p) (upd H1 p (.tup xs))
def eI(t:TA):TE:=fun σ H Q=>t σ H fun xs H1=>xs.length<=aj/\∀p,H1 p=none->Q (.ref p) (upd H1 p (.lst xs))
theorem bD{x1}(h:PA X es t):PE X (.Tuple es x1 pos) (dZ t):=by
 intro J6 s σ H Q I hq;refine wpAny_Tuple_spliced (cM (h pos J6 s σ H _ I hq) fun us s1 ⟨xs,H1,I1,r,z,q⟩=>⟨by rw[<-r.length];exact z,?_⟩);have hf:H1 s1.heap.objs.size=none:=I1.hok.fresh (aN _);refine⟨.ref s1.heap.objs.size,upd H1 s1.heap.objs.size (.tup xs),I1.laid (t':=s1.toks) (fun b u e=>bb _ e) (aN _) ?_,rfl,q _ hf⟩;exact⟨z,us,r,⟨_,dz _ rfl,rfl,_,rfl⟩⟩
theorem bM(h:PA X es t):PE X (.List es pos) (eI t):=by
 intro J6 s σ H Q I hq;refine wpAny_List_spliced (cM (h pos J6 s σ H _ I hq) fun us s1 ⟨xs,H1,I1,r,z,q⟩=>⟨by rw[<-r.length];exact z,?_⟩);have hf:H1 s1.heap.objs.size=none:=I1.hok.fresh (aN _);refine⟨.ref s1.heap.objs.size,upd H1 s1.heap.objs.size (.lst xs),I1.laid (t':=s1.toks) (fun b u e=>bb _ e) (aN _) ?_,rfl,q _ hf⟩;exact⟨z,us,0,r,dz _ rfl⟩
end
abbrev Sp:=List V->Hp->VK->XK->Prop
abbrev C6:=List Env->Hp->Shared->XK->Value->Shared->Prop
structure AJ(P:bB)(w:World)(K:Za)(mg:Str->Option Value)(base:Heap)(A:Around)(outer:List Env)(s:Shared)(H:Hp):Prop where
 frames:A.frames=some outer
 mod:Mod K mg base
 bs:∀b o,base.get? b=some o->s.heap.get? b=some o/\H b=none
 bsz:base.objs.size<=s.heap.objs.size
 funs:s.heap.FunFrames base outer
 frf:∀b∈mi outer,H b=none
 hok:ki P w K H s.heap
 bare:ma s.gens
def CE(outer:List Env)(P:bB)(w:World)(K:Za)(H:Hp)(s:Shared)(Q:VK)(u:Value)(s':Shared):Prop :=
 ∃v H',s'.os=s.os/\ma s'.gens/\Un (mi outer) [] H H' s.heap s'.heap/\ki P w K H' s'.heap/\RelV v u/\Q v H'
def CR(CX:C6)(outer:List Env)(P:bB)(w:World)(K:Za)(H:Hp)(s:Shared)(Q:VK)(E:XK)(r:Result)(s':Shared):Prop :=
 match r with
 |.ok (.ret u)=>CE outer P w K H s Q u s'
 |.ok _=>False
 |.error e=>CX outer H s E e s'
structure ik(P:bB)(w:World)(K:Za)(mg:Str->Option Value)(base:Heap)(CX:C6)(k:Nat)(f:Addr)(fd:hZ)(ps:Zb)(sp:Sp):Prop where
 len:∀vs H Q E,sp vs H Q E->vs.length=ps.length
 run:∀(A:Around) (outer:List Env) (s:Shared) (H:Hp) (args:Args) (us:Zf) (vs:List V) (Q:VK) (E:XK),du k A->AJ P w K mg base A outer s H->rC s fd args (ps.zip us)->bg vs us->sp vs H Q E ->
  zzl83 (model P w) A (.call (.ref f) args) (CR CX outer P w K H s Q E) s
theorem AJ.make{P:bB}{w:World}{K:Za}{mg:Str->Option Value}{base:Heap}{A:Around}{outer:List Env}{s:Shared}{H:Hp}(e:AJ P w K mg base A outer s H)(C:Addr)(us:Zf)(kw:List (Str×Value)):
  AJ P w K mg base (A.under (.builtin "type.__call__" ⟨.ref C::us,kw⟩)) outer s H:=⟨by first|exact e.frames|(simpa[Around.under,Code.envs,Code.isFrame,pushEnvs]using e.frames),e.mod,e.bs,e.bsz,e.funs,e.frf,e.hok,e.bare⟩
section
variable{X:Cx}{J6:Zd}{σ:St}{H:Hp}{s s':Shared}
theorem Inv.env0(I:Inv X J6 σ H s):AJ X.prog X.w X.K X.mg X.base X.A X.stack s H :=
 ⟨I.ok.frames,I.ok.mod,I.bs,bj I.ok.bsz I.sz,I.stack,I.stkFree,I.hok,I.bare⟩
theorem Inv.after{Q:VK}{u:Value}(I:Inv X J6 σ H s)(h:CE X.stack X.prog X.w X.K H s Q u s'):EP X J6 σ Q u s':=by
 obtain⟨v,H',os,bare,un,hok,r,q⟩:=h;obtain⟨hh,g,d,t,os'⟩:=s';obtain rfl:os'=s.os:=os;exact⟨v,H',I.call (h':=hh) (g':=g) (d':=d) (t':=t) (ch:=[]) un hok bare (fun b z=>absurd z (by simp)),r,q⟩
end
def qi(sp:Sp)(dvs:List V)(E:XK)(t:TA):TE:=fun σ H Q=>t σ H fun vs H1=>sp (vs++dvs) H1 Q E
def jv(C:Addr)(m:Str)(sp:Sp)(dvs:List V)(E:XK)(ta:TE)(t:TA):TE:=fun σ H Q=>ta σ H fun x H1=>∃a dx fs,x=.ref a/\H1 a=some (.ins C dx fs)/\fs.lookup m=none /\
 t σ H1 fun vs H2=>sp (x::(vs++dvs)) H2 Q E
def Dr(C:Addr)(sp:Sp)(dvs:List V)(E:XK)(t:TA):TE:=fun σ H Q=>t σ H fun vs H1=>∀x dx,H1 x=none->H1 dx=none->dx≠x ->
 sp (.ref x::(vs++dvs)) (upd (upd H1 dx (.own x)) x (.ins C dx [])) (fun v H2=>v=.non/\Q (.ref x) H2) E
def Binds(K:Za)(fd:hZ)(ps:Zb)(ds:Zf):Prop :=
 ∀(s:Shared) (us:Zf),K.In s.heap->(us++ds).length=ps.length->rC s fd ⟨us,[]⟩ (ps.zip (us++ds))
theorem Binds.all{K:Za}{fd:hZ}{ps:Zb}(h:∀us:List Value,us.length=ps.length->bindArgs fd ⟨us,[]⟩=pure (ps.zip us)):Binds K fd ps []:=fun s us _ hl=>by
 rw[fD]at hl ⊢;exact .of_eq (h us hl)
def mT(CX:C6)(X:Cx)(E:XK):Prop:=∀(J6:Zd) (σ:St) (H:Hp) (s:Shared) (e:Value) (s':Shared),Inv X J6 σ H s->CX X.stack H s E e s'->X.xe e s'
section
variable{X:Cx}{CX:C6}{k:Nat}{f C:Addr}{fd:hZ}{ps:Zb}{sp:Sp}{dvs:List V}{ds:Zf}{E:XK}{x m:Str}{p pos J8:Pos}{e o:Expr}{es:List Expr}{ta:TE}{t:TA}
theorem zQ{J6:Zd}{σ:St}{H:Hp}{s:Shared}{Q:VK}{us:Zf}{vs:List V}(F:ik X.prog X.w X.K X.mg X.base CX k f fd ps sp)(hr:du k X.A)(hb:Binds X.K fd ps ds)(hd:bg dvs ds)(hx:mT CX X E)
  (I:Inv X J6 σ H s) (r:bg vs us) (h:sp (vs++dvs) H Q E):wpAny (model X.prog X.w) X.A (call (.ref f) us) (EP X J6 σ Q) X.xe s:=by
 have r2:bg (vs++dvs) (us++ds):=r.append hd;have hl:(us++ds).length=ps.length:=by rw[<-r2.length];exact F.len _ _ _ _ h
 refine rB (uA (F.run X.A X.stack s H ⟨us,[]⟩ (us++ds) (vs++dvs) Q E hr I.env0 (hb s us I.kIn hl) r2 h) fun r s' hq=>?_);cases r with
 |error e=>exact hx J6 σ H s e s' I hq
 |ok fl =>
  cases fl with
  |ret u=>exact I.after hq
  |next=>exact da hq
  |brk=>exact da hq
  |cont=>exact da hq
theorem wx(F:ik X.prog X.w X.K X.mg X.base CX k f fd ps sp)(hr:du k X.A)(hg:Gl X x)(hm:X.mg x=some (.ref f))(hk:eh X.K (.ref f)=true)(hb:Binds X.K fd ps ds)(hd:bg dvs ds)(hx:mT CX X E)
  (ha:PA X (e::es) t) (hdb:(x==("__debug__":Str))=false:=by decide) (he:aB (e::es) X.env=(false,eval e X.env)::aB es X.env:=by rfl) (hpl:(backTo pos (aB es X.env)).any (·.1)=false:=by rfl) :
  PE X (.Call (.Name x p) (e::es) [] pos) (qi sp dvs E t):=by
 intro J6 s σ H Q I h;refine p8 (ib I hg hm ?_ hdb);refine se (h₀:=X.base) I.ok.mod.kin hk (cM (ha pos J6 s σ H _ I h) fun us s1 ⟨vs,H1,I1,r,q⟩=>⟨I1.kIn,?_⟩) he hpl;exact zQ F hr hb hd hx I1 r q
theorem El(F:ik X.prog X.w X.K X.mg X.base CX k f fd ps sp)(hr:du k X.A)(hg:Gl X x)(hm:X.mg x=some (.ref f))(hk:eh X.K (.ref f)=true)(hb:Binds X.K fd ps ds)(hd:bg dvs ds)(hx:mT CX X E)
  (hdb:(x==("__debug__":Str))=false:=by decide):PE X (.Call (.Name x p) [] [] pos) (qi sp dvs E bF):=by
 intro J6 s σ H Q I h;refine p8 (ib I hg hm ?_ hdb);exact PySem.W.callWith_K0 I.kIn hk (zQ (us:=[]) F hr hb hd hx I .nil h)
theorem Eg{pl:Sem Bool}(he:PE X o ta)(c:Db X.K C)(hm:IR X.K C m f)(F:ik X.prog X.w X.K X.mg X.base CX k f fd ps sp)(hr:du k X.A)(hb:Binds X.K fd ps ds)(hd:bg dvs ds)(hx:mT CX X E)
  (ht:eval (.Call (.Attribute o m J8) [] [] pos) X.env=(do
   let ov <- eval o X.env
   uF J8.atName
   let(f,first) <- m_ [ov] (uD ov m pl)
   vS pos f first (backTo pos (aB [] X.env)) (oR pos (oQ [] X.env))):=by rfl) :
  PE X (.Call (.Attribute o m J8) [] [] pos) (jv C m sp dvs E ta bF):=by
 intro J6 s σ H Q I h;refine PySem.W.methodCall_KW (pl:=pl) (cM (he J6 s σ H _ I h) fun u s1 ⟨x,H1,I1,rx,a,dx,fs,ex,ea,l,q⟩=>?_) ht;subst ex;obtain rfl:u=Value.ref a:=rx;refine Ao I1 ea c hm l ?_;exact PySem.W.callWith_K0 (first:=[.ref a]) I1.kIn hm.kp (zQ (us:=[.ref a]) (vs:=[.ref a]) F hr hb hd hx I1 (.cons rfl .nil) q)
structure Mk(K:Za)(C f:Addr):Prop where
 makes:uC K C=true
 init:bW K (.ref C) "__init__"=some (some (.ref f))
 fn:m8 K (.ref f)=true
 kp:eh K (.ref C)=true
end
structure fX(N P:Zb)(sc:Scope):Prop where
 kind:sc.kind=.function
 co:sc.isCoroutine=false
 gen:sc.isGenerator=false
 nd:N.Nodup
 pre:N.take P.length=P
 par:∀x∈P,sc.names.lookup x=some .local∨sc.names.lookup x=some .cell
 nofree:∀y∈sc.names,y.2≠.free
theorem ve{kindOf:Str->Option gf}{x:Str}:∀{binds:List (Str×Value)}{m:Str->Option Value},(∀v,(x,v)∉binds)->bindL kindOf binds m x=m x
 |[],_,_=>rfl
 | (n,v)::r,m,h=>by
  unfold bindL;rw[ve fun w hw=>h w (cj _ hw)];split
  ·have:x≠n:=by rintro rfl;exact h v cp
   simp[this]
  ·rfl
theorem vg{kindOf:Str->Option gf}{x:Str}:∀{binds:List (Str×Value)}{m:Str->Option Value},(∀v,(x,v)∉binds)->bindC kindOf binds m x=m x
 |[],_,_=>rfl
 | (n,v)::r,m,h=>by
  unfold bindC;rw[vg fun w hw=>h w (cj _ hw)];split
  ·rfl
  ·have:x≠n:=by rintro rfl;exact h v cp
   simp[this]
theorem vf{kindOf:Str->Option gf}{x:Str}{v:Value}:∀{P:Zb}{vs:Zf}{i:Nat}{m:Str->Option Value},P.Nodup->P[i]?=some x->vs[i]?=some v->kindOf x=some .local ->
  bindL kindOf (P.zip vs) m x=some v
 |[],_,_,_,_,h,_,_=>by simp at h
 |_::_,[],_,_,_,_,h,_=>by simp at h
 |p::P,w::vs,0,m,nd,h1,h2,hk=>by
  simp at h1 h2;subst h1;subst h2;show bindL kindOf ((p,w)::P.zip vs) m p=_;unfold bindL;rw[ve fun v hv=>(ji.mp nd).1 (r_ hv).1,if_pos hk];simp
 |p::P,w::vs,i+1,m,nd,h1,h2,hk=>by
  show bindL kindOf ((p,w)::P.zip vs) m x=_;unfold bindL;exact vf (i:=i) (ji.mp nd).2 (by simpa using h1) (by simpa using h2) hk
theorem vh{kindOf:Str->Option gf}{x:Str}{v:Value}:∀{P:Zb}{vs:Zf}{i:Nat}{m:Str->Option Value},P.Nodup->P[i]?=some x->vs[i]?=some v->kindOf x≠some .local ->
  bindC kindOf (P.zip vs) m x=some v
 |[],_,_,_,_,h,_,_=>by simp at h
 |_::_,[],_,_,_,_,h,_=>by simp at h
 |p::P,w::vs,0,m,nd,h1,h2,hk=>by
  simp at h1 h2;subst h1;subst h2;show bindC kindOf ((p,w)::P.zip vs) m p=_;unfold bindC;rw[vg fun v hv=>(ji.mp nd).1 (r_ hv).1,if_neg hk];simp
 |p::P,w::vs,i+1,m,nd,h1,h2,hk=>by
  show bindC kindOf ((p,w)::P.zip vs) m x=_;unfold bindC;exact vh (i:=i) (ji.mp nd).2 (by simpa using h1) (by simpa using h2) hk
def start(N:Zb)(vs:List V):St:=vs.map some++kI (N.length-vs.length) none
def tG(CX:C6)(P:bB)(w:World)(K:Za)(mg:Str->Option Value)(base:Heap)(N:Zb)(qual:Str)(scope:Scope)(f:Addr)(cd:Value)(A:Around)(outer:List Env)(s:Shared)(H:Hp)(E:XK):Cx where
 prog:=P
 w:=w
 K:=K
 mg:=mg
 base:=base
 A:=A.deeper (envOfC qual scope s.heap.objs.size f cd)
 N:=N
 s₀:=s
 H₀:=H
 env:=envOfC qual scope s.heap.objs.size f cd
 outer:=outer
 stack:=envOfC qual scope s.heap.objs.size f cd::outer
 ex:=[]
 calm:=true
 fn:=fun _=>true
 pn:=[]
 xe:=fun e s'=>wpAny (model P w) (A.deeper (envOfC qual scope s.heap.objs.size f cd)) (leaving (envOfC qual scope s.heap.objs.size f cd) e) (fun _ s''=>CX outer H s E e s'') (fun e' s''=>CX outer H s E e' s'') s'
theorem yX{sc:Scope}{n:Nat}{x:Str}(h:sc.names.lookup x=some .cell):∃c,(cellsFrom n sc.names []).lookup x=some c:=by
 have q:=PySem.W.cellsFrom_some sc.names n [] (.inl h);exact vR.mp q
theorem CH{CX:C6}{P:bB}{w:World}{K:Za}{mg:Str->Option Value}{base:Heap}{N ps:Zb}{qual:Str}{scope:Scope}{f:Addr}{cd:Value}{A:Around}{outer:List Env}{s s1:Shared}{H:Hp}{E:XK}{us:Zf}{vs:List V}
  (S:fX N ps scope) (hd:A.handled=none) (e0:AJ P w K mg base A outer s H) (hl:vs.length=ps.length) (r:bg vs us)
  (x:InCallC s s.heap.objs.size (bindL (envOfC qual scope s.heap.objs.size f cd).kindOf (ps.zip us) fun _=>none) (cellsFrom (s.heap.objs.size+1) scope.names []) (bindC (envOfC qual scope s.heap.objs.size f cd).kindOf (ps.zip us) fun _=>none) s1) :
  Inv (tG CX P w K mg base N qual scope f cd A outer s H E) [] (start N vs) H s1:=by
 have hpl:ps.length<=N.length:=by have:=congrArg List.length S.pre;rw[aP]at this;omega
 obtain⟨h1,tk,rfl,hk⟩:=x.done;have noA:∀b:Addr,b∉(tG CX P w K mg base N qual scope f cd A outer s H E).ex:=fun b z=>absurd (show b∈([]:Ze)from z) (by simp);refine⟨⟨e0.mod,S.kind,rfl,rfl,aN _,fun y z c h1 h2=>?_,fun y hy=>?_,fun y c _ h=>?_,fun _=>hd,Around.frames_deeper e0.frames,.inr ⟨rfl,rfl⟩,fun b z=>absurd z (noA b),e0.bs,e0.bsz,fun b _ _=>noA b,fun b z=>absurd z (noA b),e0.funs,e0.frf⟩,
  rfl,e0.bare,Un.kept hk,⟨_,x.toInCall.ns,fun i y v h1 h2 h3=>?_⟩,fun y c h=>⟨_,x.cell y c h⟩,e0.hok.fresh (aN _),fun y c h=>?_,fun p hp=>absurd (show p∈([]:Zd)from hp) (by simp),e0.hok.kept hk,?_⟩
 ·exact name_of_addr x.apart (oP h1) (oP h2)
 ·have hy:scope.names.lookup y=some .cell∨scope.names.lookup y=some .free:=hy;rcases hy with hy|hy
  ·exact yX hy
  ·exact absurd rfl (S.nofree _ (oP hy))
 ·exact ei (x.above y c (oP h))
 ·have hi:i<vs.length:=by
   unfold start at h2;by_cases hi:i<vs.length
   ·exact hi
   ·rw[oO (by simpa using hi)]at h2;rw[List.getElem?_replicate]at h2;split at h2<;>cases h2
  have ha:vs[i]?=some v:=by
   unfold start at h2;rw[kH (by simpa using hi),cb]at h2;cases e:vs[i]? with
   |none=>rw[e]at h2;cases h2
   |some a=>rw[e]at h2;cases h2;rfl
  obtain⟨u,hu,rv⟩:=r.get ha;have hp:ps[i]?=some y:=by
   rw[<-S.pre,List.getElem?_take_of_lt (by omega)];exact h1
  have ndP:ps.Nodup:=by rw[<-S.pre];exact S.nd.sublist (List.take_sublist _ _)
  refine⟨u,rv,?_⟩;rcases S.par y (cu hp)with k|k
  ·exact .inl ⟨k,vf ndP hp hu k⟩
  ·obtain⟨c,e⟩:=yX (n:=s.heap.objs.size+1) k;refine .inr ⟨.inl k,c,e,?_⟩;have q:=x.cell y c e;rw[vh ndP hp hu (by show scope.names.lookup y≠_;rw[k];decide)]at q;exact q
 ·exact e0.hok.fresh (ei (x.above y c (oP h)))
 ·unfold start;show _=N.length;rw[bp,am,vQ];omega
theorem Hc{CX:C6}{P:bB}{w:World}{K:Za}{mg:Str->Option Value}{base:Heap}{k:Nat}{f:Addr}{name qual:Str}{params:Arguments}{body:List Stmt}{scope:Scope}{dV kV doc pm cdv ct oc:Value}{an od:Option Addr}
  {osl:Array (Option Value)}{N ps:Zb}{sp:Sp}(lk:K.lookup f=some ⟨oc,od,.func (iy name qual params body scope dV kV doc pm an cdv ct),osl⟩) (hcd:mz K cdv qual=true) (S:fX N ps scope)
  (len:∀vs H Q E,sp vs H Q E->vs.length=ps.length)
  (hbody:∀(A:Around) (outer:List Env) (s:Shared) (H:Hp) (vs:List V) (Q:VK) (E:XK),du k (A.deeper (envOfC qual scope s.heap.objs.size f cdv))->sp vs H Q E ->
   ∃t,xy (tG CX P w K mg base N qual scope f cdv A outer s H E) body t/\t (bT Q) (start N vs) H) :
  ik P w K mg base CX (k+1) f (iy name qual params body scope dV kV doc pm an cdv ct) ps sp:=by
 refine⟨len,fun A outer s H args us vs Q E hr e0 hb r hsp=>?_⟩;have hl:=len _ _ _ _ hsp;have KX:K.In s.heap:=e0.mod.kin.keeps fun b o e=>(e0.bs b o e).1;have lim:s.heap.NoLimit:=e0.mod.nolimit.keeps fun b o e=>(e0.bs b o e).1;have hkind:∀y∈ps.zip us,scope.names.lookup y.1=some .local∨(scope.names.lookup y.1=some .cell/\((cellsFrom (s.heap.objs.size+1) scope.names []).lookup y.1).isSome=true):=fun⟨n,v⟩ hy=>by
  rcases S.par n (r_ hy).1 with q|q
  ·exact .inl q
  ·exact .inr ⟨q,PySem.W.cellsFrom_some _ _ _ (.inl q)⟩
 refine codeAny_call_function hr.depth (KX _ _ lk) rfl S.co S.gen rfl (PySem.W.codeRec_of KX hcd) (hb _ _ _ _ ?_);refine wpAny_newFunctionEnv_cells S.kind hkind fun env he s1 x=>?_;subst he;refine⟨lim.keeps x.toInCall.keep,codeAny_func ?_⟩;obtain⟨t,ht,hq⟩:=hbody A outer s H vs Q E (hr.deeper _) hsp;have I:Inv (tG CX P w K mg base N qual scope f cdv A outer s H E) [] (start N vs) H s1:=CH S hr.hd e0 hl r x;refine bU (ht [] s1 (start N vs) H _ I hq) (fun fl s' hs=>?_) fun e s' hs=>hs;have fin:∀{σ':St}{H':Hp}{v:V}{u:Value},Inv (tG CX P w K mg base N qual scope f cdv A outer s H E) [] σ' H' s'->RelV v u->Q v H'->CE outer P w K H s Q u s' :=
  fun{σ' H' v u} J rv q=>⟨v,H',J.os,J.bare,J.base,J.hok,rv,q⟩
 cases fl with
 |ret u =>
  obtain⟨v,σ',H',J,rv,q⟩:=hs;exact fin J rv q
 |next =>
  obtain⟨σ',H',J,q⟩:=hs;exact fin (v:=V.non) (u:=Value.none) J rfl q
 |brk =>
  obtain⟨_,_,_,q⟩:=hs;exact da q
 |cont =>
  obtain⟨_,_,_,q⟩:=hs;exact da q
end L2
namespace L2
open PySem PySem.Spec PyProof.Rows
section
variable{X:Cx}{x:Str}{p pos:Pos}{e:Expr}{es:List Expr}{t:TA}{id T:String}{r:List V->Hp->VK->Prop}
def dD(r:List V->Hp->VK->Prop)(t:TA):TE:=fun σ H Q=>t σ H fun vs H1=>r vs H1 Q
theorem yr(hc:gS X (.builtin id) r)(hg:Gl X x)(hm:X.mg x=none)(hv:iX x=some (.builtin id))(ha:PA X (e::es) t)(hn:x≠"__name__":=by decide)(hdb:(x==("__debug__":Str))=false:=by decide)
  (he:aB (e::es) X.env=(false,eval e X.env)::aB es X.env:=by rfl) (hpl:(backTo pos (aB es X.env)).any (·.1)=false:=by rfl):PE X (.Call (.Name x p) (e::es) [] pos) (dD r t):=by
 intro J6 s σ H Q I h;refine p8 (pG I hg hm hv ?_ hn hdb);exact PyProof.Rows.callWith_builtin1 (cM (ha pos J6 s σ H _ I h) fun us s1 ⟨vs,H1,I1,r1,q1⟩=>hc J6 s1 σ H1 vs us Q I1 r1 q1) he hpl
theorem lP(hc:gS X (.type T) r)(hg:Gl X x)(hm:X.mg x=none)(hv:iX x=some (.type T))(ha:PA X (e::es) t)(hn:x≠"__name__":=by decide)(hdb:(x==("__debug__":Str))=false:=by decide)
  (he:aB (e::es) X.env=(false,eval e X.env)::aB es X.env:=by rfl) (hpl:(backTo pos (aB es X.env)).any (·.1)=false:=by rfl):PE X (.Call (.Name x p) (e::es) [] pos) (dD r t):=by
 intro J6 s σ H Q I h;refine p8 (pG I hg hm hv ?_ hn hdb);exact AQ (cM (ha pos J6 s σ H _ I h) fun us s1 ⟨vs,H1,I1,r1,q1⟩=>hc J6 s1 σ H1 vs us Q I1 r1 q1) he hpl
end
end L2
namespace HT
open PySem PyProof.Rows
section
variable{prog:bB}{w:World}{A:Around}{E:Zc}{s:Shared}
def sIx(n d:Nat):Option Int->Nat
 |none=>d
 |some v=>if v<0 then(v+(n:Int)).toNat else min v.toNat n
theorem sIx_none(n d:Nat):sIx n d none=d:=rfl
theorem sIx_nat(n d k:Nat):sIx n d (some (k:Int))=min k n:=by
 show(if(k:Int)<0 then((k:Int)+(n:Int)).toNat else min (k:Int).toNat n)=min k n
 rw[if_neg (by omega),oM]
theorem sIx_le(n d:Nat)(hd:d<=n)(o:Option Int):sIx n d o<=n:=by
 cases o with
 |none=>exact hd
 |some v =>
  show(if v<0 then(v+(n:Int)).toNat else min v.toNat n)<=n
  by_cases hv:v<0
  ·rw[if_pos hv];omega
  ·rw[if_neg hv];exact Nat.min_le_right _ _
theorem clip_eq(v:Int)(n d:Nat):(if v<0 then max (v+(n:Int)) 0 else min v (n:Int))=((sIx n d (some v):Nat):Int):=by
 show(if v<0 then max (v+(n:Int)) 0 else min v (n:Int))=(((if v<0 then(v+(n:Int)).toNat else min v.toNat n):Nat):Int)
 by_cases hv:v<0
 ·simp only[if_pos hv];omega
 ·simp only[if_neg hv];omega
end
end HT
namespace L2
open PySem PySem.Spec PyProof.Rows
abbrev TO:=St->Hp->(Option Int->Hp->Prop)->Prop
def PO(X:Cx)(e:Option Expr)(t:TO):Prop :=
 ∀(J6:Zd) (s:Shared) (σ:St) (H:Hp) (Q:Option Int->Hp->Prop),Inv X J6 σ H s->t σ H Q ->
  wpAny (model X.prog X.w) X.A (evalPart e X.env) (fun u s'=>∃o H',Inv X J6 σ H' s'/\IsPart u o/\Q o H') X.xe s
def bI:TO:=fun _ H Q=>Q none H
def cy(t:TE):TO:=fun σ H Q=>t σ H fun x H1=>∃i,x=.int i/\Q (some i) H1
section
variable{X:Cx}{e:Expr}{te:TE}{lo hi:Option Expr}{tl th:TO}{pos p2:Pos}
theorem bN:PO X none bI:=by
 intro J6 s σ H Q I h;rw[evalPart_none];exact a_ ⟨none,H,I,.none,h⟩
theorem bc(h:PE X e te):PO X (some e) (cy te):=by
 intro J6 s σ H Q I hw;rw[evalPart_some];refine cM (h J6 s σ H _ I hw) fun u s1 ⟨x,H1,I1,r1,q1⟩=>?_;obtain⟨i,rfl,q⟩:=q1;obtain⟨t,rfl⟩:=r1;exact⟨some i,H1,I1,.int i t,q⟩
def SlR(X:Cx)(r:V->Option Int->Option Int->Hp->VK->Prop):Prop :=
 ∀(J6:Zd) (s:Shared) (σ:St) (H:Hp) (x:V) (v vl vu:Value) (lo hi:Option Int) (sl:Addr) (Q:VK),Inv X J6 σ H s->RelV x v->s.heap.IsSliceOf sl vl vu .none->IsPart vl lo->IsPart vu hi->r x lo hi H Q ->
  ∃T id,oK (.type T) "__getitem__"=pure (some (.builtin id))/\s.TypeIs v T/\wpAny (model X.prog X.w) X.A (my v (.ref sl)) (EP X J6 σ Q) X.xe s
def mZ(r:V->Option Int->Option Int->Hp->VK->Prop)(te:TE)(tl th:TO):TE:=fun σ H Q=>te σ H fun x H1=>tl σ H1 fun l H2=>th σ H2 fun u H3=>r x l u H3 Q
theorem aY{r:V->Option Int->Option Int->Hp->VK->Prop}(hr:SlR X r)(he:PE X e te)(hl:PO X lo tl)(hu:PO X hi th):PE X (.Subscript e (.Slice lo hi none p2) pos) (mZ r te tl th):=by
 intro J6 s σ H Q I h;refine Subscript_ (cM (he J6 s σ H _ I h) fun v s1 ⟨x,H1,I1,r1,q1⟩=>?_);refine wpAny_Slice (cM (hl J6 s1 σ H1 _ I1 q1) fun vl s2 ⟨l,H2,I2,pl,q2⟩=>cM (hu J6 s2 σ H2 _ I2 q2) fun vu s3 ⟨u,H3,I3,pu,q3⟩=>?_);rw[evalPart_none];refine a_ ?_;have I4:Inv X J6 σ H3 { s3 with heap:=s3.heap.push { cls:=.type "slice",data:=.fields #[vl,vu,.none] } }:=I3.kept (t':=s3.toks) fun b ob q=>bb _ q;obtain⟨T,id,hT,ht,hg⟩:=hr J6 { s3 with heap:=s3.heap.push { cls:=.type "slice",data:=.fields #[vl,vu,.none] } } σ H3 x v vl vu l u s3.heap.objs.size Q I4 r1 (Heap.IsSliceOf.new ..) pl pu q3;show wpAny (model X.prog X.w) X.A (subscriptTail e (.Slice lo hi none p2) v (.ref s3.heap.objs.size)) (EP X J6 σ Q) X.xe { s3 with heap:=s3.heap.push { cls:=.type "slice",data:=.fields #[vl,vu,.none] } };exact tail_any (ops:=[.ref s3.heap.objs.size,v]) ht hT hg (by with_unfolding_all rfl)
def df(xs:List V)(lo hi:Option Int):List V:=(xs.drop (HT.sIx xs.length 0 lo)).take (HT.sIx xs.length xs.length hi-HT.sIx xs.length 0 lo)
theorem yU(xs:List V)(lo hi:Option Int):(df xs lo hi).length<=xs.length:=by
 unfold df;rw[aP,fm];omega
end
end L2
namespace L2
open PySem PySem.Spec PyProof.Rows
def Fy(n:Nat)(i:Int):Option Nat:=if 0<=i then(if i<n then some i.toNat else none)else if -(n:Int)<=i then some (i+n).toNat else none
def xJ{α:Type}(xs:List α)(i:Int):Option α:=(Fy xs.length i).bind fun j=>xs[j]?
theorem Bz{n:Nat}{i:Int}{j:Nat}(h:Fy n i=some j):seqIndex? i n=some j/\j<n/\-(n:Int)<=i/\i<n:=by
 unfold Fy at h;by_cases h0:0<=i
 ·rw[if_pos h0]at h;by_cases h1:i<n
  ·rw[if_pos h1]at h;have e:i.toNat=j:=dX h;exact⟨by rw[seqIndex_of h0 h1,e],by omega,by omega,h1⟩
  ·rw[if_neg h1]at h;cases h
 ·rw[if_neg h0]at h;by_cases h1:-(n:Int)<=i
  ·rw[if_pos h1]at h;have e:(i+n).toNat=j:=dX h;exact⟨by rw[seqIndex_neg (by omega) h1,e],by omega,h1,by omega⟩
  ·rw[if_neg h1]at h;cases h
theorem xv{α:Type}{xs:List α}{i:Int}{v:α}(h:xJ xs i=some v):∃j,seqIndex? i xs.length=some j/\xs[j]?=some v/\j<xs.length/\-(xs.length:Int)<=i/\i<xs.length:=by
 unfold xJ at h;cases e:Fy xs.length i with
 |none=>rw[e]at h;cases h
 |some j =>
  rw[e]at h;obtain⟨h1,h2,h3,h4⟩:=Bz e;exact⟨j,h1,h,h2,h3,h4⟩
theorem cf{α:Type}{xs:List α}{j:Nat}{v:α}(h:xs[j]?=some v):xJ xs (j:Int)=some v:=by
 have hj:j<xs.length:=(db.mp h).1;have e:Fy xs.length (j:Int)=some j:=by
  unfold Fy;rw[if_pos (by omega),if_pos (by omega)];simp
 unfold xJ;rw[e];exact h
theorem tO{α:Type}(xs:List α)(v:α):xJ (xs++[v]) (-1)=some v:=by
 have hl:(xs++[v]).length=xs.length+1:=by simp
 have e:Fy (xs++[v]).length (-1)=some xs.length:=by
  unfold Fy;rw[hl,if_neg (by decide),if_pos (by omega)];congr 1;omega
 unfold xJ;rw[e];show(xs++[v])[xs.length]?=some v;simp
def GL(b:Expr):Prop:=∀o i,vP b false o i=operate [o,i] (my o i)
def GP(X:Cx)(r:R2):Prop :=
 ∀(value slice:Expr) (J6:Zd) (s:Shared) (σ:St) (H:Hp) (x y:V) (v u:Value) (Q:VK),Inv X J6 σ H s->RelV x v->RelV y u->r x y H Q ->
  vP slice false v u=operate [v,u] (my v u)->wpAny (model X.prog X.w) X.A (subscriptTail value slice v u) (EP X J6 σ Q) X.xe s
def MtR(X:Cx)(id:String)(r:V->List V->Hp->VK->Prop):Prop :=
 ∀(J6:Zd) (s:Shared) (σ:St) (H:Hp) (x:V) (xs:List V) (v:Value) (us:Zf) (Q:VK),Inv X J6 σ H s->RelV x v->bg xs us->r x xs H Q ->
  wpAny (model X.prog X.w) X.A (call (.builtin id) (v::us)) (EP X J6 σ Q) X.xe s
section
variable{X:Cx}{a b:Expr}{ta tb:TE}{pos:Pos}
theorem GP.or{r r':R2}(h:GP X r)(h':GP X r'):GP X (fun x y H Q=>r x y H Q∨r' x y H Q):=by
 intro value slice J6 s σ H x y v u Q I rx ry q hs;rcases q with q|q
 ·exact h value slice J6 s σ H x y v u Q I rx ry q hs
 ·exact h' value slice J6 s σ H x y v u Q I rx ry q hs
theorem Bm{r:R2}(hr:GP X r)(ha:PE X a ta)(hb:PE X b tb)(hs:GL b):PE X (.Subscript a b pos) (aK r ta tb):=by
 intro J6 s σ H Q I h;exact Subscript_ (IF ha hb I h fun v u s2 x y H2 I2 rx ry q=>hr a b J6 s2 σ H2 x y v u Q I2 rx ry q (hs _ _))
def c6(K:Za):R2:=fun x y H Q=>∃p xs i v,x=.ref p/\y=.int i/\aA K H p xs/\xJ xs i=some v/\Q v H
def ym(K:Za):R2:=fun x y H Q=>∃p xs i v,x=.ref p/\y=.int i/\b_ K H p xs/\xJ xs i=some v/\Q v H
def z0:R2:=fun x y H Q=>∃z i c,x=.str z/\y=.int i/\z.length<=aj/\xJ z.cps.toList i=some c/\Q (.str ⟨#[c]⟩) H
theorem By:GP X (c6 X.K):=by
 intro value slice J6 s σ H x y v u Q I rx ry h hs;obtain⟨p,xs,i,z,rfl,rfl,hq,he,q⟩:=h;cases rx;obtain⟨t,rfl⟩:=ry;obtain⟨its,r,pl,hz⟩:=I.list hq;obtain⟨j,h1,h2,h3,h4,h5⟩:=xv he;obtain⟨w,ew,rw'⟩:=r.get h2;have hl:=r.length;have hn:=pE;have fin:EP X J6 σ Q w s:=⟨z,H,I,rw',q⟩;by_cases h0:0<=i
 ·have hj:i.toNat=j:=by
   rw[seqIndex_of h0 h5]at h1;exact dX h1
  exact item_listR pl.isList h0 (by omega) (by rw[hj];simpa using ew) fin hs
 ·have hj:(i+(its.toArray.size:Int)).toNat=j:=by
   rw[seqIndex_neg (by omega) h4]at h1;rw[cr,<-hl];exact dX h1
  exact subscriptTail_builtinR (x:=w) pl.isList.typeIs slot_list_getitem.lookup
   (wpAny_getItem_list_neg (Q:=fun r s'=>r=w/\EP X J6 σ Q r s') pl.isList (by omega) (by rw[cr]<;>omega) (by omega) (by rw[hj];simpa using ew) ⟨rfl,fin⟩) hs
theorem EO:GP X (ym X.K):=by
 intro value slice J6 s σ H x y v u Q I rx ry h hs;obtain⟨p,xs,i,z,rfl,rfl,hq,he,q⟩:=h;cases rx;obtain⟨t,rfl⟩:=ry;obtain⟨its,r,pl,hz⟩:=I.tuple hq;obtain⟨j,h1,h2,h3,h4,h5⟩:=xv he;obtain⟨w,ew,rw'⟩:=r.get h2;have hl:=r.length;have hn:=pE;have fin:EP X J6 σ Q w s:=⟨z,H,I,rw',q⟩;exact subscriptTail_builtinR (x:=w) pl.typeIs slot_tuple_getitem.lookup
  (getItem_tuple (j:=j) (Q:=fun r s'=>r=w/\EP X J6 σ Q r s') pl (by omega) (by omega) (by rw[cr,<-hl];exact h1) (by simpa using ew) ⟨rfl,fin⟩) hs
theorem EQ:GP X z0:=by
 intro value slice J6 s σ H x y v u Q I rx ry h hs;obtain⟨z,i,c,rfl,rfl,hz,he,q⟩:=h;obtain⟨t,rfl⟩:=rx;obtain⟨t',rfl⟩:=ry;obtain⟨j,h1,h2,h3,h4,h5⟩:=xv he;have hl:z.cps.toList.length=z.length:=by simp[Str.length]
 rw[hl]at h1 h4 h5;have hn:=pE;exact tail_any (typeIs_str s z t) slot_str_getitem.lookup (getItem_str (c:=c) (by
  have e1:decide (i < -(2 ^ 63:Int))=false:=zzr0 (by omega);have e2:decide (i ≥ 2 ^ 63)=false:=zzr0 (by omega);rw[e1,e2,Bool.or_false]) (by rw[h1];simpa using h2) ⟨.str ⟨#[c]⟩,H,I.tok _,⟨_,rfl⟩,q⟩) hs
def Cq(K:Za):R2:=fun x y H Q=>c6 K x y H Q∨ym K x y H Q∨z0 x y H Q
theorem Io:GP X (Cq X.K):=By.or (EO.or EQ)
theorem Ac(its:Zf)(n j:Nat)(u:Value):r9 (·.setIfInBounds j u) { cls:=.type "list",data:=.seq its.toArray n }={ cls:=.type "list",data:=.seq (its.set j u).toArray n }:=by
 simp[r9]
theorem Inv.lst{J6:Zd}{σ:St}{H:Hp}{s:Shared}{p:Addr}{xs:List V}(I:Inv X J6 σ H s)(h:H p=some (.lst xs)):
  ∃(its:Zf) (n:Nat),bg xs its/\s.heap.get? p=some { cls:=.type "list",data:=.seq its.toArray n }/\xs.length<=aj:=by
 obtain⟨z,its,n,r,e⟩:=I.hok p _ h;exact⟨its,n,r,e,z⟩
theorem Inv.lstUpd{J6:Zd}{σ:St}{H:Hp}{s:Shared}{p:Addr}{xs ys:List V}{its its':Zf}{n n':Nat}{f:Obj->Obj}(I:Inv X J6 σ H s)(h:H p=some (.lst xs))
  (ho:s.heap.get? p=some { cls:=.type "list",data:=.seq its.toArray n }) (hf:f { cls:=.type "list",data:=.seq its.toArray n }={ cls:=.type "list",data:=.seq its'.toArray n' }) (r:bg ys its') (hz:ys.length<=aj) (t:Nat) :
  Inv X J6 σ (upd H p (.lst ys)) { s with heap:=s.heap.update p f,toks:=t }:=by
 have e:(s.heap.update p f).get? p=some { cls:=.type "list",data:=.seq its'.toArray n' }:=by
  rw[g8 f ho (by rw[hf]<;>rfl),hf]
 refine I.write (x:=p) (e:=p) (by rw[h];trivial) (.inl rfl) (fun b u hb q=>(fj _ _ (cW hb)).trans q) ⟨_,e⟩ ?_;exact⟨hz,its',n',r,e⟩
def sM:V->V->V->Hp->(Hp->Prop)->Prop:=fun o i v H Q=>∃p xs k j,o=.ref p/\i=.int k/\H p=some (.lst xs)/\Fy xs.length k=some j/\Q (upd H p (.lst (xs.set j v)))
theorem kP:JH X sM:=by
 intro J6 s σ H o i v ov iv u Q I ro ri rv h;obtain⟨p,xs,k,j,rfl,rfl,hp,hj,q⟩:=h;cases ro;obtain⟨t,rfl⟩:=ri;obtain⟨its,n,r,ho,hz⟩:=I.lst hp;obtain⟨h1,h2,h3,h4⟩:=Bz hj;have hl:=r.length;have hn:=pE;have I':Inv X J6 σ (upd H p (.lst (xs.set j v))) { s with heap:=s.heap.update p (r9 (·.setIfInBounds j u)) } :=
  I.lstUpd hp ho (Ac its n j u) (r.set rv j) (by rw[vO];exact hz) s.toks
 by_cases h0:0<=k
 ·have hk:k.toNat=j:=by
   rw[seqIndex_of h0 h4]at h1;exact dX h1
  exact PySem.W.ki_setAt ho h0 (by omega) (by rw[cr,<-hl];exact h4) (by rw[hk];exact⟨_,I',q⟩)
 ·have hk:(k+(its.toArray.size:Int)).toNat=j:=by
   rw[seqIndex_neg (by omega) h3]at h1;rw[cr,<-hl];exact dX h1
  exact PySem.W.ki_setBack ho (by omega) (by rw[cr,<-hl];exact h3) (by omega) (by rw[hk];exact⟨_,I',q⟩)
theorem wg(lo hi:Option Int)(n:Nat):(mw lo hi none n).1=((HT.sIx n 0 lo:Nat):Int)/\(mw lo hi none n).2.1=((HT.sIx n n hi:Nat):Int)/\(mw lo hi none n).2.2=1:=by
 refine⟨?_,?_,rfl⟩
 ·cases lo with
  |none=>simp[mw,HT.sIx]
  |some i =>
   simp only[mw,HT.sIx,Option.getD_none,show(1:Int) > 0 by decide,if_true];by_cases h:i<0
   ·simp only[h,if_true]<;>omega
   ·simp only[h,if_false]<;>omega
 ·cases hi with
  |none=>simp[mw,HT.sIx]
  |some i =>
   simp only[mw,HT.sIx,Option.getD_none,show(1:Int) > 0 by decide,if_true];by_cases h:i<0
   ·simp only[h,if_true]<;>omega
   ·simp only[h,if_false]<;>omega
theorem ug(its:Zf)(lo hi:Option Int):slicePick its.toArray lo hi none=((its.drop (HT.sIx its.length 0 lo)).take (HT.sIx its.length its.length hi-HT.sIx its.length 0 lo)).toArray:=by
 obtain⟨h1,h2,h3⟩:=wg lo hi its.toArray.size;unfold slicePick;rw[h1,h2,h3];simp only[sliceRange_one,pick_run,cr]<;>rfl
def jj(K:Za):V->Option Int->Option Int->Hp->VK->Prop:=fun x lo hi H Q=>∃a xs,x=.ref a/\aA K H a xs/\∀p,H p=none->Q (.ref p) (upd H p (.lst (df xs lo hi)))
theorem cz:SlR X (jj X.K):=by
 intro J6 s σ H x v vl vu lo hi sl Q I rx hs pl pu h;obtain⟨a,xs,rfl,hx,q⟩:=h;cases rx;obtain⟨its,r,ht,hz⟩:=I.list hx;have hlen:=r.length;refine⟨"list",_,slot_list_getitem.lookup,ht.isList.typeIs,?_⟩;refine wpAny_getItem_list_slice ht.isList hs pl pu .none (by simp) ?_ (by rw[cr]<;>omega);rw[ug,<-hlen];refine⟨.ref s.heap.objs.size,_,I.laid (t':=s.toks) (o:=.lst (df xs lo hi)) (fun b ob q=>bb _ q) (aN _) ?_,rfl,q _ (I.hok.fresh (aN _))⟩;exact⟨bj (yU xs lo hi) hz,_,0,(r.drop (HT.sIx xs.length 0 lo)).take (HT.sIx xs.length xs.length hi-HT.sIx xs.length 0 lo),dz _ rfl⟩
theorem xm:gS X (.builtin "len") (fun xs H Q=>∃p ys,xs=[.ref p]/\(aA X.K H p ys∨b_ X.K H p ys)/\Q (.int ys.length) H):=by
 intro J6 s σ H xs us Q I r h;obtain⟨p,ys,rfl,hq,q⟩:=h;obtain⟨u,rfl,rx⟩:=vals1 r;cases rx;have hn:=pE;rcases hq with hq|hq
 ·obtain⟨its,r',pl,hz⟩:=I.list hq;have hlen:=r'.length;exact Calls.call_len_list pl.isList (by simp only[cr]<;>omega) ⟨.int ys.length,H,I.tok _,⟨s.toks+1,by rw[cr,hlen]⟩,q⟩
 ·obtain⟨its,r',pl,hz⟩:=I.tuple hq;have hlen:=r'.length;exact len_tuple pl (by simp only[cr]<;>omega) ⟨.int ys.length,H,I.tok _,⟨s.toks+1,by rw[cr,hlen]⟩,q⟩
theorem xk:gS X (.builtin "len") (fun xs H Q=>∃z,xs=[.str z]/\z.length<=aj/\Q (.int z.length) H):=by
 intro J6 s σ H xs us Q I r h;obtain⟨z,rfl,hz,q⟩:=h;obtain⟨u,rfl,t,rfl⟩:=vals1 r;have hn:=pE;exact len_str (by omega) ⟨.int z.length,H,I.tok _,⟨_,rfl⟩,q⟩
theorem gS.or{f:Value}{r r':List V->Hp->VK->Prop}(h:gS X f r)(h':gS X f r'):gS X f (fun xs H Q=>r xs H Q∨r' xs H Q):=by
 intro J6 s σ H xs us Q I rs q;rcases q with q|q
 ·exact h J6 s σ H xs us Q I rs q
 ·exact h' J6 s σ H xs us Q I rs q
theorem xj:gS X (.type "list") (fun xs H Q=>∃p ys,xs=[.ref p]/\(aA X.K H p ys∨b_ X.K H p ys)/\∀l,H l=none->Q (.ref l) (upd H l (.lst ys))):=by
 intro J6 s σ H xs us Q I r h;obtain⟨p,ys,rfl,hq,q⟩:=h;obtain⟨u,rfl,rx⟩:=vals1 r;cases rx;have fin:∀(its:Zf),bg ys its->ys.length<=aj->∀(h':Heap) (c':Nat),(∀b o',s.heap.get? b=some o'->h'.get? b=some o') ->
   h'.get? s.heap.objs.size=some { cls:=.type "list",dict:=none,data:=.seq its.toArray c',slots:=#[] }->EP X J6 σ Q (.ref s.heap.objs.size) { s with heap:=h' }:=fun its r' hz h' c' kp e =>
  ⟨.ref s.heap.objs.size,_,I.laid (t':=s.toks) kp (aN _) (show cL X.prog X.w X.K _ h' _ (.lst ys)from⟨hz,its,c',r',e⟩),rfl,q _ (I.hok.fresh (aN _))⟩
 rcases hq with hq|hq
 ·obtain⟨its,r',pl,hz⟩:=I.list hq;have hlen:=r'.length;obtain⟨o,ho,hc,n,hd⟩:=pl.isList;exact call_list_seq p (.inl rfl) ho hc hd (fun h' c' kp e=>fin its r' hz h' c' kp e) (by simp only[cr]<;>omega)
 ·obtain⟨its,r',pl,hz⟩:=I.tuple hq;have hlen:=r'.length;obtain⟨o,ho,hc,n,hd⟩:=pl;exact call_list_seq p (.inr rfl) ho hc hd (fun h' c' kp e=>fin its r' hz h' c' kp e) (by simp only[cr]<;>omega)
theorem mj:gS X (.type "tuple") (fun xs H Q=>∃p ys,xs=[.ref p]/\((aA X.K H p ys/\∀l,H l=none->Q (.ref l) (upd H l (.tup ys)))∨(b_ X.K H p ys/\Q (.ref p) H))):=by
 intro J6 s σ H xs us Q I r h;obtain⟨p,ys,rfl,h⟩:=h;obtain⟨u,rfl,rx⟩:=vals1 r;cases rx;rcases h with⟨hq,q⟩|⟨hq,q⟩
 ·obtain⟨its,r',pl,hz⟩:=I.list hq;have hlen:=r'.length;refine call_tuple_list pl.isList (fun h' kp=>?_) (by simp only[cr]<;>omega);have I1:Inv X J6 σ H { s with heap:=h' }:=I.kept (t':=s.toks) kp;have I2:Inv X J6 σ (upd H h'.objs.size (.tup ys)) { s with heap:=h'.push { cls:=.type "tuple",data:=.seq its.toArray } } :=
   I1.laid (t':=s.toks) (fun b o e=>bb _ e) (aN _) (show cL X.prog X.w X.K _ _ _ (.tup ys)from⟨hz,its,r',IsTup.new _ _⟩)
  exact⟨.ref h'.objs.size,_,I2,rfl,q _ (I1.hok.fresh (aN _))⟩
 ·obtain⟨its,r',pl,hz⟩:=I.tuple hq;exact call_tuple_same pl ⟨.ref p,H,I,rfl,q⟩
def tyV(K:Za)(T:String)(x:V)(H:Hp):Prop:=match x with
 |.str _=>T="str"
 |.int _=>T="int"
 |.ref p=>(T="list"/\∃xs,aA K H p xs)∨(T="tuple"/\∃o,K.lookup p=some o/\o.cls=.type "tuple"/\o.dict=none) ∨
   (T="dict"/\((∃kvs,H p=some (.dK kvs))∨∃kvs,H p=some (.dT kvs)))∨(T="set"/\∃S n,H p=some (.set S n))
 |_=>False
theorem Dl{J6:Zd}{σ:St}{H:Hp}{s:Shared}{T:String}{x:V}{v:Value}(I:Inv X J6 σ H s)(r:RelV x v)(ty:tyV X.K T x H):
  s.TypeIs v T/\∀a,v=.ref a->∃ob,s.heap.get? a=some ob/\ob.dict=none:=by
 cases x with
 |str z =>
  obtain⟨t,rfl⟩:=r;cases(show T="str" from ty);exact⟨typeIs_str s z t,fun _ e=>nomatch e⟩
 |int i =>
  obtain⟨t,rfl⟩:=r;cases(show T="int" from ty);exact⟨typeIs_int s i t,fun _ e=>nomatch e⟩
 |ref p =>
  cases r;rcases ty with⟨rfl,xs,hq⟩|⟨rfl,o,hk,hc,hd⟩|⟨rfl,hk⟩|⟨rfl,S,n,hk⟩
  ·obtain⟨its,_,pl,_⟩:=I.list hq;refine⟨pl.isList.typeIs,fun a e=>?_⟩;cases e;obtain⟨o,n,e,c,hd,_⟩:=pl;exact⟨o,e,hd⟩
  ·refine⟨⟨o,I.kIn p o hk,hc⟩,fun a e=>?_⟩;cases e;exact⟨o,I.kIn _ o hk,hd⟩
  ·have z:∃o,s.heap.get? p=some o/\o.ExactDict:=by
    rcases hk with⟨kvs,hk⟩|⟨kvs,hk⟩
    ·obtain⟨_,_,_,_,o,_,_,e,ex,_⟩:=I.hok p _ hk;exact⟨o,e,ex⟩
    ·obtain⟨_,_,_,_,o,_,_,e,ex,_⟩:=I.hok p _ hk;exact⟨o,e,ex⟩
   obtain⟨o,e,ex⟩:=z;refine⟨⟨o,e,ex.1⟩,fun a e2=>?_⟩;cases e2;exact⟨o,e,ex.2.1⟩
  ·obtain⟨o,_,_,_,e,ex,_⟩:=I.hok p _ hk;refine⟨⟨o,e,ex.1⟩,fun a e2=>?_⟩;cases e2;exact⟨o,e,ex.2.1⟩
 |_=>exact da ty
def Jg(K:Za)(T:String)(r:V->List V->Hp->VK->Prop)(to:TE):TE:=fun σ H Q=>to σ H fun x H1=>tyV K T x H1/\r x [] H1 Q
def uf(K:Za)(T:String)(r:V->List V->Hp->VK->Prop)(to:TE)(t:TA):TE:=fun σ H Q=>to σ H fun x H1=>tyV K T x H1/\t σ H1 fun xs H2=>r x xs H2 Q
variable{o e:Expr}{es:List Expr}{to:TE}{t:TA}{name:Str}{J8 J7:Pos}{T id:String}{r:V->List V->Hp->VK->Prop}
theorem Ii(pa:PlainAttrs T)(slot:Slot T name id)(hty:typeOf (.builtin id)=pure (.type "method_descriptor"))(hm:MtR X id r)(ho:PE X o to)
  (hbase:uB o name X.env (eval o X.env)=eval o X.env:=by rfl) (hline:(J8.endLine==J7.line)=true:=by rfl):PE X (.Call (.Attribute o name J8) [] [] J7) (Jg X.K T r to):=by
 intro J6 s σ H Q I h;refine wpAny_Call_method0_late hbase hline (cM (ho J6 s σ H _ I h) fun v s1 ⟨x,H1,I1,r1,ty,q1⟩=>?_);obtain⟨h1,h2⟩:=Dl I1 r1 ty;exact⟨T,id,pa,slot,hty,h1,h2,Calls.callWith_builtin rfl (PySem.evalArgs_none (hm J6 s1 σ H1 x [] v [] Q I1 r1 .nil q1))⟩
theorem fP(pa:PlainAttrs T)(slot:Slot T name id)(hty:typeOf (.builtin id)=pure (.type "method_descriptor"))(hm:MtR X id r)(ho:PE X o to)(ha:PA X (e::es) t)
  (hbase:uB o name X.env (eval o X.env)=eval o X.env:=by rfl)
  (hfew:((backTo J7 (aB (e::es) X.env)).all (fun x=>!x.1) && (oR J7 (oQ [] X.env)).all (fun x=>x.1.isSome)
   && decide ((e::es).length+([]:List Keyword).length+(if([]:List Keyword).isEmpty then 0 else 1)<30))=true:=by rfl)
  (hline:(J8.endLine==J7.line)=true:=by rfl) (hs:aB (e::es) X.env=(false,eval e X.env)::aB es X.env:=by rfl) (hplain:(backTo J7 (aB es X.env)).any (·.1)=false:=by rfl) :
  PE X (.Call (.Attribute o name J8) (e::es) [] J7) (uf X.K T r to t):=by
 intro J6 s σ H Q I h;refine wpAny_Call_method_late hbase hfew hline rfl (cM (ho J6 s σ H _ I h) fun v s1 ⟨x,H1,I1,r1,ty,q1⟩=>?_);obtain⟨h1,h2⟩:=Dl I1 r1 ty;refine⟨T,id,pa,slot,hty,h1,h2,?_⟩;have hA:=ha J7 J6 s1 σ H1 _ I1 q1;rw[hs]at hA ⊢;refine Calls.callWith_builtin (by show(false || (backTo J7 (aB es X.env)).any (·.1))=false;rw[hplain]<;>rfl) (Calls.evalArgs_plain ?_);exact cM hA fun us s2 ⟨vs,H2,I2,r2,q2⟩=>hm J6 s2 σ H2 x vs v us Q I2 r1 r2 q2
end
end L2
namespace L2
open PySem PySem.Spec PyProof.Rows
def JK(X:Cx)(id:String)(r:V->List V->Hp->VK->Prop):Prop :=
 ∀(J6:Zd) (s:Shared) (σ:St) (H:Hp) (x:V) (xs:List V) (v:Value) (us:Zf) (Q:VK),Inv X J6 σ H s->RelV x v->bg xs us->r x xs H Q ->
  wpAny (model X.prog X.w) X.A (call (.builtin id) (v::us)) (EP X J6 σ Q) X.xe s
theorem bg.one:∀{x:V}{us:Zf},bg [x] us->∃u,us=[u]/\RelV x u
 |_,_,.cons r .nil=>⟨_,rfl,r⟩
theorem bg.two:∀{x y:V}{us:Zf},bg [x,y] us->∃u v,us=[u,v]/\RelV x u/\RelV y v
 |_,_,_,.cons r (.cons q .nil)=>⟨_,_,rfl,r,q⟩
theorem bg.zero:∀{us:Zf},bg [] us->us=[]
 |_,.nil=>rfl
theorem bg.dropLast{xs:List V}{us:Zf}(h:bg xs us):bg xs.dropLast us.dropLast:=by
 induction h with
 |nil=>exact .nil
 |cons r t ih =>
  cases t with
  |nil=>exact .nil
  |cons q t'=>exact .cons r ih
theorem At{α:Type}(l:List α):l.eraseIdx (l.length-1)=l.dropLast:=by
 induction l with
 |nil=>rfl
 |cons a r ih =>
  cases r with
  |nil=>rfl
  |cons b r =>
   have e:(a::b::r).length-1=((b::r).length-1)+1:=by
    have h1:(a::b::r).length=r.length+2:=rfl;have h2:(b::r).length=r.length+1:=rfl;omega
   rw[e,List.eraseIdx_cons_succ,ih]
   all_goals rfl
section
variable{X:Cx}{J6:Zd}{σ:St}{H:Hp}{s:Shared}{l b:Addr}{xs ys zs:List V}
theorem Inv.lset{its its':Zf}{n:Nat}{f:Array Value->Array Value}{t':Nat}(I:Inv X J6 σ H s)(hH:H l=some (.lst xs))
  (e:s.heap.get? l=some { cls:=.type "list",data:=.seq its.toArray n }) (hf:f its.toArray=its'.toArray) (hv:bg ys its') (hz:ys.length<=aj) :
  Inv X J6 σ (upd H l (.lst ys)) { s with heap:=s.heap.update l (r9 f),toks:=t' }:=by
 have q:=PySem.IsL.update e f;rw[hf]at q;refine I.write (x:=l) (e:=l) (by rw[hH];exact trivial) (.inl rfl) (fun b' u hb hu=>(fj s.heap (r9 f) (cW hb)).trans hu) ⟨_,q⟩ ?_;exact⟨hz,its',_,hv,q⟩
theorem Inv.lnew{its:Zf}{t':Nat}(I:Inv X J6 σ H s)(hv:bg ys its)(hz:ys.length<=aj):
  Inv X J6 σ (upd H s.heap.objs.size (.lst ys)) { s with heap:=s.heap.push { cls:=.type "list",data:=.seq its.toArray },toks:=t' } :=
 I.laid (fun _ _ q=>bb _ q) (aN _) ⟨hz,its,0,hv,dz _ rfl⟩
theorem Inv.fresh(I:Inv X J6 σ H s):H s.heap.objs.size=none:=I.hok.fresh (aN _)
theorem Inv.lstM(I:Inv X J6 σ H s)(hH:H l=some (.lst xs)):xs.length<=aj/\∃(its:Zf) (n:Nat),bg xs its/\xs.length=its.length/\s.heap.get? l=some { cls:=.type "list",data:=.seq its.toArray n }:=by
 obtain⟨z,its,n,r,e⟩:=I.hok l _ hH;exact⟨z,its,n,r,r.length,e⟩
end
section
variable{X:Cx}
def fM:V->List V->Hp->VK->Prop:=fun x vs H Q=>∃l xs y,x=.ref l/\vs=[y]/\H l=some (.lst xs)/\xs.length<aj/\Q .non (upd H l (.lst (xs++[y])))
theorem dI:JK X "list.append" fM:=by
 intro J6 s σ H x vs v us Q I rx rv h;obtain⟨l,xs,y,rfl,rfl,hH,hz,q⟩:=h;cases rx;obtain⟨u,rfl,ru⟩:=rv.one;obtain⟨z,its,n,r,hl,e⟩:=I.lstM hH;refine oJ F.slot_list_append ⟨_,e,rfl⟩ F.entry_list_append (F.args_list_append_2 _ _) (PySem.list_append l its.toArray n u (by rw[cr];omega)) ⟨e,?_⟩;refine⟨.non,_,I.lset (its':=its++[u]) hH e (by simp) (r.append (.cons ru .nil)) ?_,rfl,q⟩;rw[bp,List.length_singleton];omega
def Jm:V->List V->Hp->VK->Prop:=fun x vs H Q=>∃l xs y,x=.ref l/\vs=[]/\H l=some (.lst xs)/\xs[xs.length-1]?=some y/\Q y (upd H l (.lst xs.dropLast))
theorem Ij:JK X "list.pop" Jm:=by
 intro J6 s σ H x vs v us Q I rx rv h;obtain⟨l,xs,y,rfl,rfl,hH,hy,q⟩:=h;cases rx;have hus:=rv.zero;subst hus;obtain⟨z,its,n,r,hl,e⟩:=I.lstM hH;obtain⟨u,hu,ru⟩:=r.get hy;have hy':its.toArray[its.toArray.size-1]?=some u:=by
  show its.toArray[its.length-1]?=some u;rw[<-Array.getElem?_toList,<-hl];exact hu
 refine oJ F.slot_list_pop ⟨_,e,rfl⟩ F.entry_list_pop (F.args_list_pop_1 _) (MeetsSeq.list_pop_last l its.toArray n u hy' (by rw[cr];omega)) ⟨e,?_⟩;refine⟨y,_,I.lset (its':=its.dropLast) hH e ?_ r.dropLast ?_,ru,q⟩
 ·show its.toArray.eraseIdxIfInBounds (its.toArray.size-1)=its.dropLast.toArray;rw[cr,List.eraseIdxIfInBounds_toArray,At]
 ·rw[List.length_dropLast];omega
def uo:R2:=fun x y H Q=>∃l b xs zs,x=.ref l/\y=.ref b/\H l=some (.lst xs)/\H b=some (.lst zs)/\xs.length+zs.length<=aj/\∀p,H p=none->Q (.ref p) (upd H p (.lst (xs++zs)))
theorem k7:ml X (m9 .Add) uo:=by
 intro J6 s σ H x y v u Q I rx ry h;obtain⟨l,b,xs,zs,rfl,rfl,hH,hB,hz,q⟩:=h;cases rx;cases ry;obtain⟨z,its,n,r,hl,e⟩:=I.lstM hH;obtain⟨z2,its2,n2,r2,hl2,e2⟩:=I.lstM hB;refine PySem.P.add_list e e2 ?_ (by rw[cr,cr];omega);have ea:its.toArray++its2.toArray=(its++its2).toArray:=by simp
 rw[ea];exact⟨.ref _,_,I.lnew (t':=s.toks) (r.append r2) (by rw[bp];omega),rfl,q _ I.fresh⟩
end
end L2
namespace L2
open PySem PySem.Spec PyProof.Rows
section
variable{κ:Type}[DecidableEq κ]
def d_(kvs:List (κ×V))(k:κ):Option V:=(kvs.find? fun kv=>decide (kv.1=k)).map (·.2)
def gL(kvs:List (κ×V))(k:κ)(v:V):List (κ×V) :=
 if(kvs.any fun kv=>decide (kv.1=k))=true then kvs.map (fun kv=>if kv.1=k then(kv.1,v)else kv)else kvs++[(k,v)]
theorem dY{p:κ×V}{r:List (κ×V)}{k:κ}(e:p.1=k):d_ (p::r) k=some p.2:=by simp[d_,oH,e]
theorem dB{p:κ×V}{r:List (κ×V)}{k:κ}(e:¬p.1=k):d_ (p::r) k=d_ r k:=by simp[d_,oH,e]
theorem kJ(k:κ):∀kvs:List (κ×V),(kvs.any fun kv=>decide (kv.1=k))=(d_ kvs k).isSome
 |[]=>rfl
 |p::r=>by
  rw[vN];by_cases e:p.1=k
  ·simp only[dY e,zzr1 e,Bool.true_or,Option.isSome_some]
  ·rw[dB e,zzr0 e,Bool.false_or];exact kJ k r
theorem xU(k j:κ)(y:V):∀kvs:List (κ×V),d_ (kvs.map fun kv=>if kv.1=k then(kv.1,y)else kv) j=(d_ kvs j).map fun x=>if j=k then y else x
 |[]=>rfl
 |p::r=>by
  have ih:=xU k j y r;rw[bf];by_cases h:p.1=k
  ·rw[if_pos h];by_cases e:p.1=j
   ·rw[dY (p:=(p.1,y)) e,dY e,r8,if_pos (e.symm.trans h)]
   ·rw[dB (p:=(p.1,y)) e,dB e,ih]
  ·rw[if_neg h];by_cases e:p.1=j
   ·rw[dY (p:=p) e,dY e,r8,if_neg (fun z=>h (e.trans z))]
   ·rw[dB (p:=p) e,dB e,ih]
theorem uI(k j:κ)(y:V):∀kvs:List (κ×V),d_ kvs k=none->d_ (kvs++[(k,y)]) j=if j=k then some y else d_ kvs j
 |[],_=>by
  by_cases e:k=j
  ·rw[if_pos e.symm];exact dY (p:=(k,y)) e
  ·rw[if_neg (fun z=>e z.symm)];exact dB (p:=(k,y)) e
 |p::r,hn=>by
  rw[jL];have hk:¬p.1=k:=fun z=>by rw[dY z]at hn;cases hn
  rw[dB hk]at hn;have ih:=uI k j y r hn;by_cases e:p.1=j
  ·rw[dY e,dY e,if_neg (fun z=>hk (e.trans z))]
  ·rw[dB e,dB e,ih]
theorem xT(kvs:List (κ×V))(k j:κ)(y:V):d_ (gL kvs k y) j=if j=k then some y else d_ kvs j:=by
 unfold gL;by_cases a:(kvs.any fun kv=>decide (kv.1=k))=true
 ·rw[if_pos a,xU];rw[kJ]at a;by_cases e:j=k
  ·obtain⟨x,hx⟩:=vR.mp a;rw[if_pos e,e,hx,r8,if_pos rfl]
  ·rw[if_neg e];cases d_ kvs j with
   |none=>rfl
   |some x=>rw[r8,if_neg e]
 ·rw[if_neg a];refine uI k j y kvs ?_;rw[kJ]at a;cases q:d_ kvs k with
  |none=>rfl
  |some x=>rw[q]at a;exact(a rfl).elim
theorem lg(kvs:List (κ×V))(k:κ)(v:V):(gL kvs k v).length<=kvs.length+1:=by
 unfold gL;split
 ·rw[am];omega
 ·rw[bp,cw,rZ];omega
theorem yn{kvs:List (κ×V)}{k:κ}(v:V)(h:d_ kvs k=none):gL kvs k v=kvs++[(k,v)]:=by
 unfold gL;rw[kJ,h];exact if_neg (by decide)
theorem iN.isSome_eq{o:Option V}{u:Option Value}(r:iN o u):o.isSome=u.isSome:=by
 cases o with
 |none=>cases u with
  |none=>rfl
  |some _=>exact(show False from r).elim
 |some _=>cases u with
  |none=>exact(show False from r).elim
  |some _=>rfl
theorem iN.getD{o:Option V}{u:Option Value}{d:V}{d':Value}(r:iN o u)(rd:RelV d d'):RelV (o.getD d) (u.getD d'):=by
 cases o with
 |none=>cases u with
  |none=>exact rd
  |some _=>exact(show False from r).elim
 |some _=>cases u with
  |none=>exact(show False from r).elim
  |some _=>exact r
theorem KV.val{kvs:List (κ×V)}{vs:List (κ×Value)}(r:KV kvs vs)(k:κ):iN (d_ kvs k) (mr vs k):=by
 unfold KV at r
 induction r with
 |nil=>exact eg
 |@cons p q ps qs h t ih =>
  obtain⟨h1,h2⟩:=h;by_cases e:p.1=k
  ·have e':q.1=k:=h1.symm.trans e;have b:mr (q::qs) k=some q.2:=by simp[mr,oH,e']
   rw[dY e,b];exact h2
  ·have e':¬q.1=k:=fun z=>e (h1.trans z);have b:mr (q::qs) k=mr qs k:=by simp[mr,oH,e']
   rw[dB e,b];exact ih
theorem KV.any{kvs:List (κ×V)}{vs:List (κ×Value)}(r:KV kvs vs)(k:κ):(kvs.any fun kv=>decide (kv.1=k))=vs.any fun kv=>decide (kv.1=k):=by
 unfold KV at r
 induction r with
 |nil=>rfl
 |cons h t ih=>rw[vN,vN,ih,h.1]
theorem KV.repl{kvs:List (κ×V)}{vs:List (κ×Value)}(r:KV kvs vs)(k:κ){y:V}{u:Value}(ry:RelV y u):
  KV (kvs.map fun kv=>if kv.1=k then(kv.1,y)else kv) (vs.map fun kv=>if kv.1=k then(kv.1,u)else kv):=by
 unfold KV at r ⊢
 induction r with
 |nil=>exact .nil
 |@cons p q ps qs h t ih =>
  rw[bf,bf];refine .cons ?_ ih;obtain⟨h1,h2⟩:=h;by_cases e:p.1=k
  ·rw[if_pos e,if_pos (h1.symm.trans e)];exact⟨h1,ry⟩
  ·rw[if_neg e,if_neg (fun z=>e (h1.trans z))];exact⟨h1,h2⟩
theorem KV.put{kvs:List (κ×V)}{vs:List (κ×Value)}(r:KV kvs vs)(k:κ){y:V}{u:Value}(ry:RelV y u):KV (gL kvs k y) (stored vs k u):=by
 unfold gL stored;rw[r.any k];by_cases e:(vs.any fun kv=>decide (kv.1=k))=true
 ·rw[if_pos e,if_pos e];exact r.repl k ry
 ·rw[if_neg e,if_neg e];exact vM r ⟨rfl,ry⟩
theorem KV.length{kvs:List (κ×V)}{vs:List (κ×Value)}(r:KV kvs vs):kvs.length=vs.length:=Paired.length r
end
theorem kb{P:bB}{w:World}{k:d9}{u:Value}(r:RelV (kV k) u):(bX P w).is k u=true:=by
 cases k with
 |inl i=>obtain⟨t,e⟩:=(show ∃t,u=Value.int i t from r);subst e;exact yy P w i t
 |inr x=>obtain⟨t,e⟩:=(show ∃t,u=Value.str x t from r);subst e;exact yv P w x t
abbrev KT(K:Za)(H:Hp):List (TK×V)->List (TK×Addr×Value)->Prop:=Paired fun p q=>p.1=q.1/\zc K H p.1 (.ref q.2.1)/\p.1.depth<=8/\RelV p.2 q.2.2
theorem KT.val{K:Za}{H:Hp}{kvs:List (TK×V)}{xs:List (TK×Addr×Value)}(r:KT K H kvs xs)(k:TK):iN (d_ kvs k) ((atKey xs k).map (·.2)):=by
 induction r with
 |nil=>exact eg
 |@cons p q ps qs h t ih =>
  obtain⟨h1,_,_,h2⟩:=h;by_cases e:p.1=k
  ·have e':q.1=k:=h1.symm.trans e;have b:atKey (q::qs) k=some q.2:=by simp[atKey,oH,e']
   rw[dY e,b];exact h2
  ·have e':¬q.1=k:=fun z=>e (h1.trans z);have b:atKey (q::qs) k=atKey qs k:=by simp[atKey,oH,e']
   rw[dB e,b];exact ih
theorem KT.repl{K:Za}{H:Hp}{kvs:List (TK×V)}{xs:List (TK×Addr×Value)}(r:KT K H kvs xs)(k:TK){y:V}{u:Value}(ry:RelV y u):
  KT K H (kvs.map fun kv=>if kv.1=k then(kv.1,y)else kv) (xs.map (putAt k u)):=by
 induction r with
 |nil=>exact .nil
 |@cons p q ps qs h t ih =>
  rw[bf,bf];refine .cons ?_ ih;obtain⟨h1,h2,h3⟩:=h;unfold putAt;by_cases e:p.1=k
  ·rw[if_pos e,if_pos (h1.symm.trans e)];exact⟨h1,h2,h3.1,ry⟩
  ·rw[if_neg e,if_neg (fun z=>e (h1.trans z))];exact⟨h1,h2,h3⟩
theorem KT.put{K:Za}{H:Hp}{kvs:List (TK×V)}{xs:List (TK×Addr×Value)}(r:KT K H kvs xs)(k:TK){b:Addr}{y:V}{u:Value}(hb:zc K H k (.ref b))(h8:k.depth<=8)(ry:RelV y u):
  KT K H (gL kvs k y) (storedH xs k b u):=by
 have e:(kvs.any fun kv=>decide (kv.1=k))=(atKey xs k).isSome:=by
  rw[kJ,(r.val k).isSome_eq,Option.isSome_map]
 unfold gL storedH;rw[e];by_cases q:(atKey xs k).isSome=true
 ·rw[if_pos q,if_pos q];exact r.repl k ry
 ·rw[if_neg q,if_neg q];exact vM r ⟨rfl,hb,h8,ry⟩
theorem KT.keeps{K:Za}{H H':Hp}{kvs:List (TK×V)}{xs:List (TK×Addr×Value)}(r:KT K H kvs xs)(ht:∀b ys,H b=some (.tup ys)->H' b=some (.tup ys)):KT K H' kvs xs :=
 Paired.mapP r fun _ _ z=>⟨z.1,zc.keeps ht 8 z.2.2.1 z.2.1,z.2.2⟩
section
variable{P:bB}{w:World}{K:Za}{H:Hp}{h:Heap}{a:Addr}
theorem GZ{u:HO}(ok:ki P w K H h)(e:Rd H a u):cL P w K H h a u:=e.ok ok
theorem qq{kvs:List (d9×V)}(ok:ki P w K H h)(e:Rd H a (.dK kvs)):kvs.length<=aj/\(a==jt)=false/\∃vs,KV kvs vs/\h.DictOf (bX P w) a vs :=
 show cL P w K H h a (.dK kvs)from GZ ok e
theorem JC{kvs:List (d9×V)}(ok:ki P w K H h)(e:H a=some (.dK kvs)):kvs.length<=aj/\(a==jt)=false/\∃vs,KV kvs vs/\h.DictOf (bX P w) a vs:=qq ok (.inl e)
theorem HC(ok:ki P w K H h)(kin:K.In h):∀(d:Nat) {k:TK}{v:V}{u:Value},k.depth<=d->zc K H k v->RelV v u->l9 h k u:=by
 have key:∀(d:Nat) (ih:∀{k:TK}{v:V}{u:Value},k.depth<=d->zc K H k v->RelV v u->l9 h k u) (ks:List TK) (vs:List V) (us:Zf),TK.depths ks<=d->TKCs K H ks vs->bg vs us->TAts h ks us:=by
  intro d ih ks
  induction ks with
  |nil =>
   intro vs us _ hx r;have e:vs=[]:=hx;subst e;cases r
   rfl
  |cons k ks ihl =>
   intro vs us hd hx r;obtain⟨v,vs',rfl,h1,h2⟩:=hx;cases r with
   |@cons _ u _ us' r1 r2 =>
    have hd':max k.depth (TK.depths ks)<=d:=hd;exact⟨u,us',rfl,ih (by omega) h1 r1,ihl vs' us' (by omega) h2 r2⟩
 intro d
 induction d with
 |zero =>
  intro k v u hd hx r;cases k with
  |t l=>exact absurd hd (by show ¬(TK.depths l+1<=0);omega)
  |k b =>
   have e:v=kV b:=hx;subst e;exact kb (P:=P) (w:=w) r
 |succ d ih =>
  intro k v u hd hx r;cases k with
  |k b =>
   have e:v=kV b:=hx;subst e;exact kb (P:=P) (w:=w) r
  |t l =>
   obtain⟨b,xs,rfl,hb,hi⟩:=hx;cases(show u=Value.ref b from r);obtain⟨its,rv,ob,h1,h2,n,h3⟩:∃its:List Value,bg xs its/\IsTup h b its.toArray:=by
    rcases hb with hb|⟨o,its,n,hk,hc,hs,hz,r⟩
    ·obtain⟨_,its,rv,p⟩:=(show cL P w K H h b (.tup xs)from ok b _ hb);exact⟨its,rv,p⟩
    ·exact⟨its.toList,r,o,kin b o hk,hc,n,by simpa using hs⟩
   exact⟨b,ob,its.toArray,n,rfl,h1,h2,h3,by simpa using key d (fun h1=>ih h1) l xs its (by have:TK.depths l+1<=d+1:=hd;omega) hi rv⟩
theorem Ai{k:TK}(ok:ki P w K H h)(kin:K.In h)(e:zc K H k (.ref a))(h8:k.depth<=8):(fH P w).is h k a:=⟨HC ok kin 8 h8 e rfl,h8⟩
theorem tD{kvs:List (TK×V)}(ok:ki P w K H h)(kin:K.In h)(e:Rd H a (.dT kvs)):kvs.length<=aj/\(a==jt)=false /\
  ∃xs,KT K H kvs xs/\h.DictOfH (fH P w) a xs:=by
 obtain⟨z,y,xs,r,o,es,ep,h1,h2,h3,h4,h5⟩:=(show cL P w K H h a (.dT kvs)from GZ ok e);refine⟨z,y,xs,r,o,es,ep,h1,h2,h3,h4,fun x hx=>?_,h5⟩;have all:∀{l:List (TK×V)}{m:List (TK×Addr×Value)},KT K H l m->∀x∈m,(fH P w).is h x.1 x.2.1:=by
  intro l m q
  induction q with
  |nil=>intro x hx;exact nomatch hx
  |@cons p q ps qs hq t ih =>
   intro x hx;rcases bw.mp hx with e|hx
   ·subst e;exact Ai ok kin (by rw[<-hq.1];exact hq.2.1) (by rw[<-hq.1];exact hq.2.2.1)
   ·exact ih x hx
 exact all r x hx
theorem He{kvs:List (TK×V)}(ok:ki P w K H h)(kin:K.In h)(e:H a=some (.dT kvs)):kvs.length<=aj/\(a==jt)=false /\
  ∃xs,KT K H kvs xs/\h.DictOfH (fH P w) a xs:=tD ok kin (.inl e)
end
mutual
def qN(K:Za)(H:Hp):TK->V->Prop
 |.k a,v=>v=kV a
 |.t l,v=>∃b xs,v=.ref b/\b_ K H b xs/\TKIns K H l xs
def TKIns(K:Za)(H:Hp):List TK->List V->Prop
 |[],vs=>vs=[]
 |k::r,vs=>∃v us,vs=v::us/\qN K H k v/\TKIns K H r us
end
theorem ii.isIn{K:Za}{H:Hp}:∀(d:Nat) {k:TK}{v:V},k.depth<=d->ii H k v->qN K H k v:=by
 have key:∀(d:Nat) (ih:∀{k:TK}{v:V},k.depth<=d->ii H k v->qN K H k v) (xs:List TK) (vs:List V),TK.depths xs<=d->TKAts H xs vs->TKIns K H xs vs:=by
  intro d ih xs
  induction xs with
  |nil=>intro vs _ hx;exact hx
  |cons x xs ihl =>
   intro vs hd hx;obtain⟨v,us,rfl,hx1,hx2⟩:=hx;have hd':max x.depth (TK.depths xs)<=d:=hd;exact⟨v,us,rfl,ih (by omega) hx1,ihl us (by omega) hx2⟩
 intro d
 induction d with
 |zero =>
  intro k v hd hx;cases k with
  |t l=>exact absurd hd (by show ¬(TK.depths l+1<=0);omega)
  |k a=>exact hx
 |succ d ih =>
  intro k v hd hx;cases k with
  |k a=>exact hx
  |t l =>
   obtain⟨b,xs,rfl,hb,hi⟩:=hx;exact⟨b,xs,rfl,b_.of hb,key d (fun h1=>ih h1) l xs (by have:TK.depths l+1<=d+1:=hd;omega) hi⟩
theorem FL{X:Cx}{J6:Zd}{σ:St}{H:Hp}{s:Shared}(I:Inv X J6 σ H s):∀(d:Nat) {k:TK}{v:V}{u:Value},k.depth<=d->qN X.K H k v->RelV v u->l9 s.heap k u:=by
 have key:∀(d:Nat) (ih:∀{k:TK}{v:V}{u:Value},k.depth<=d->qN X.K H k v->RelV v u->l9 s.heap k u) (ks:List TK) (vs:List V) (us:Zf),TK.depths ks<=d->TKIns X.K H ks vs->bg vs us->TAts s.heap ks us:=by
  intro d ih ks
  induction ks with
  |nil =>
   intro vs us _ hx r;have e:vs=[]:=hx;subst e;cases r
   rfl
  |cons k ks ihl =>
   intro vs us hd hx r;obtain⟨v,vs',rfl,h1,h2⟩:=hx;cases r with
   |@cons _ u _ us' r1 r2 =>
    have hd':max k.depth (TK.depths ks)<=d:=hd;exact⟨u,us',rfl,ih (by omega) h1 r1,ihl vs' us' (by omega) h2 r2⟩
 intro d
 induction d with
 |zero =>
  intro k v u hd hx r;cases k with
  |t l=>exact absurd hd (by show ¬(TK.depths l+1<=0);omega)
  |k b =>
   have e:v=kV b:=hx;subst e;exact kb (P:=X.prog) (w:=X.w) r
 |succ d ih =>
  intro k v u hd hx r;cases k with
  |k b =>
   have e:v=kV b:=hx;subst e;exact kb (P:=X.prog) (w:=X.w) r
  |t l =>
   obtain⟨b,xs,rfl,hb,hi⟩:=hx;cases(show u=Value.ref b from r);obtain⟨its,rv,⟨ob,h1,h2,n,h3⟩,_⟩:=I.tuple hb;exact⟨b,ob,its.toArray,n,rfl,h1,h2,h3,by simpa using key d (fun h1=>ih h1) l xs its (by have:TK.depths l+1<=d+1:=hd;omega) hi rv⟩
theorem wL{X:Cx}{J6:Zd}{σ:St}{H:Hp}{s:Shared}{k:TK}{b:Addr}(I:Inv X J6 σ H s)(e:qN X.K H k (.ref b))(h8:k.depth<=8):(fH X.prog X.w).is s.heap k b:=⟨FL I 8 h8 e rfl,h8⟩
theorem io{P:bB}{w:World}{A:Around}(hu:A.units+16<cLine):(fH P w).room A.in1:=by
 show A.units+1+8<cLine;omega
def xF(K:Za)(H:Hp)(a:Addr)(y:V)(r:Option V):Prop :=
 (∃kvs k,Rd H a (.dK kvs)/\y=kV k/\r=d_ kvs k)∨∃kvs k b,Rd H a (.dT kvs)/\y=.ref b/\qN K H k (.ref b)/\k.depth<=8/\r=d_ kvs k
def JR(H:Hp)(a:Addr)(y v:V)(H':Hp):Prop :=
 (∃kvs k,H a=some (.dK kvs)/\y=kV k/\kvs.length<aj/\H'=upd H a (.dK (gL kvs k v))) ∨
 ∃kvs k b,H a=some (.dT kvs)/\y=.ref b/\ii H k (.ref b)/\k.depth<=8/\kvs.length<aj/\H'=upd H a (.dT (gL kvs k v))
section
variable{X:Cx}{J6:Zd}{σ:St}{H:Hp}{s:Shared}{a:Addr}{y v:V}{u r:Value}{o:Option V}{A:Around}{E:Zc}
theorem Inv.big(I:Inv X J6 σ H s):jt<s.heap.objs.size:=by
 have h:bV<s.heap.objs.size:=(I.mod.glob.keeps I.bk).lt;exact Nat.lt_trans (by decide) h
theorem CN{Q:Zc}(hu:A.units+16<cLine)(I:Inv X J6 σ H s)(g:xF X.K H a y (some v))(ry:RelV y u)(h:∀w' s',Inv X J6 σ H s'->RelV v w'->Q w' s'):
  wpAny (model X.prog X.w) A (my (.ref a) u) Q E s:=by
 rcases g with⟨kvs,k,e,ey,l⟩|⟨kvs,k,b,e,ey,eb,e8,l⟩
 ·subst ey;obtain⟨z,hd,vs,rel,dd⟩:=qq I.hok e;obtain⟨w',hw,rw'⟩:=iN.some_of (v:=v) (o:=mr vs k) (by rw[l];exact rel.val k);exact wpAny_getItem_of (kb ry) dd.mapOf hw (h w' _ (I.tok _) rw')
 ·subst ey;cases(show u=Value.ref b from ry);obtain⟨z,hd,xs,rel,dd⟩:=tD I.hok I.kIn e;obtain⟨w',hw,rw'⟩:=iN.some_of (v:=v) (o:=(atKey xs k).map (·.2)) (by rw[l];exact rel.val k);obtain⟨p,hp,hp2⟩:=rY.mp hw;refine wpAny_getItem_heap (io hu) (wL I eb e8) dd hp ?_;rw[hp2];exact h w' _ (I.tok _) rw'
theorem d_in{Q:Zc}(hu:A.units+16<cLine)(I:Inv X J6 σ H s)(g:xF X.K H a y o)(ry:RelV y u)(h:∀s',Inv X J6 σ H s'->Q (.bool o.isSome) s'):
  wpAny (model X.prog X.w) A (eB .In u (.ref a)) Q E s:=by
 rcases g with⟨kvs,k,e,ey,l⟩|⟨kvs,k,b,e,ey,eb,e8,l⟩
 ·subst ey;obtain⟨z,hd,vs,rel,dd⟩:=qq I.hok e;refine wpAny_in_of (kb ry) hd dd.mapOf ?_;rw[<-(rel.val k).isSome_eq,<-l];exact h _ (I.tok _)
 ·subst ey;cases(show u=Value.ref b from ry);obtain⟨z,hd,xs,rel,dd⟩:=tD I.hok I.kIn e;refine wpAny_in_heap (io hu) (wL I eb e8) hd dd ?_;have q:=(rel.val k).isSome_eq;rw[Option.isSome_map]at q;rw[<-q,<-l];exact h _ (I.tok _)
theorem GA{Q:Zc}(hu:A.units+16<cLine)(I:Inv X J6 σ H s)(g:xF X.K H a y o)(ry:RelV y u)(h:∀s',Inv X J6 σ H s'->Q (.bool (!o.isSome)) s'):
  wpAny (model X.prog X.w) A (eB .NotIn u (.ref a)) Q E s:=by
 rcases g with⟨kvs,k,e,ey,l⟩|⟨kvs,k,b,e,ey,eb,e8,l⟩
 ·subst ey;obtain⟨z,hd,vs,rel,dd⟩:=qq I.hok e;refine wpAny_notIn_of (kb ry) hd dd.mapOf ?_;rw[<-(rel.val k).isSome_eq,<-l];exact h _ (I.tok _)
 ·subst ey;cases(show u=Value.ref b from ry);obtain⟨z,hd,xs,rel,dd⟩:=tD I.hok I.kIn e;refine wpAny_notIn_heap (io hu) (wL I eb e8) hd dd ?_;have q:=(rel.val k).isSome_eq;rw[Option.isSome_map]at q;rw[<-q,<-l];exact h _ (I.tok _)
theorem xf{h':Heap}{t':Nat}{ob:HO}(I:Inv X J6 σ H s)(mu:JJ (H a))(hs:js a s.heap h')(he:∃q,h'.get? a=some q)(new:cL X.prog X.w X.K (upd H a ob) h' a ob):
  Inv X J6 σ (upd H a ob) { s with heap:=h',toks:=t' } :=
 I.write (x:=a) (e:=a) mu (.inl rfl) (fun b q hb z=>(hs.2 b hb).trans z) he new
theorem Ff{P:bB}{w:World}{K:Za}{H':Hp}{h':Heap}{kvs:List (d9×V)}{vs:List (d9×Value)}(z:kvs.length<=aj)(hd:(a==jt)=false)(rel:KV kvs vs)(dd:h'.DictOf (bX P w) a vs):
  cL P w K H' h' a (.dK kvs):=⟨z,hd,vs,rel,dd⟩
theorem CM{H':Hp}{Q:Unit->Shared->Prop}(hu:A.units+16<cLine)(I:Inv X J6 σ H s)(g:JR H a y v H')(ry:RelV y u)(rv:RelV v r)(h:∀s',Inv X J6 σ H' s'->Q () s'):
  wpAny (model X.prog X.w) A (setItem (.ref a) u r) Q E s:=by
 rcases g with⟨kvs,k,e,ey,l,eH⟩|⟨kvs,k,b,e,ey,eb,e8,l,eH⟩
 ·subst ey eH;obtain⟨z,hd,vs,rel,dd⟩:=JC I.hok e;have hz:vs.length<=aj:=by rw[<-rel.length];exact z
  have hl:(gL kvs k v).length<=aj:=by have:=lg kvs k v;omega
  refine wpAny_setItem_pairs (hsz:=hz) (kb ry) dd fun h' dd' hs=>h _ ?_;have he:∃q,h'.get? a=some q:=let⟨q,_,_,hq,_⟩:=dd';⟨q,hq⟩;exact xf I (by rw[e];exact eg) hs he (Ff hl hd (rel.put k rv) dd')
 ·subst ey eH;cases(show u=Value.ref b from ry);obtain⟨z,hd,xs,rel,dd⟩:=He I.hok I.kIn e;have hz:xs.length<=aj:=by rw[<-Paired.length rel];exact z
  have hl:(gL kvs k v).length<=aj:=by have:=lg kvs k v;omega
  refine wpAny_setItem_heap (hsz:=hz) (io hu) (Ai I.hok I.kIn (ii.c 8 e8 eb) e8) dd fun h' dd' hs=>h _ ?_;obtain⟨q,es,ep,hq,h2,h3,h4,_,h5⟩:=dd';refine xf I (by rw[e];exact eg) hs ⟨q,hq⟩ ⟨hl,hd,_,(rel.put k (ii.c 8 e8 eb) e8 rv).keeps fun c ys ec=>?_,q,es,ep,hq,h2,h3,h4,h5⟩;rw[ai (Ha ec e (fun z=>nomatch z))];exact ec
end
def CU(i:Expr):Prop:=∀ov iv,vP i false ov iv=operate [ov,iv] (my ov iv)
theorem FR{prog:bB}{w:World}{A:Around}{E:Zc}{s:Shared}{env:Env}{value slice:Expr}{pos:Pos}{T id:String}{Q:Zc}
  (hl:oK (.type T) "__getitem__"=pure (some (.builtin id))) (hs:CU slice)
  (h:wpAny (model prog w) A (eval value env) (fun o s₁=>wpAny (model prog w) A (eval slice env) (fun i s₂=>s₂.TypeIs o T/\wpAny (model prog w) A (my o i) Q E s₂) E s₁) E s) :
  wpAny (model prog w) A (eval (.Subscript value slice pos) env) Q E s:=by
 refine Subscript_ (bU h (fun o s₁ h₁=>bU h₁ (fun i s₂ h₂=>?_) fun _ _ x=>x) fun _ _ x=>x);obtain⟨hT,h₂⟩:=h₂;unfold subscriptTail;refine ao ?_;rw[getitemInPython_of_ne hT.not_modules];refine ao (FA hT hl ?_);have fin:wpAny (model prog w) A (vP slice false o i) (fun r s₃=>wpAny (model prog w) A (letTemporaryGo value o r >>= fun _=>pure r) Q E s₃) E s₂:=by
  rw[hs o i];exact wpAny_operating (bU h₂ (fun r s₃ h₃=>ao (wpAny_letTemporaryGo (a_ h₃))) fun _ _ x=>x)
 first
  |exact a_ (ao fin)
  |exact ao (a_ (ao fin))
  |exact ao fin
theorem yR{X:Cx}{J6:Zd}{σ:St}{H:Hp}{s:Shared}{a:Addr}{y:V}{o:Option V}(I:Inv X J6 σ H s)(g:xF X.K H a y o):s.TypeIs (.ref a) "dict":=by
 rcases g with⟨kvs,k,e,_,_⟩|⟨kvs,k,b,e,_,_,_⟩
 ·obtain⟨_,_,vs,_,dd⟩:=qq I.hok e;exact dd.typeIs
 ·obtain⟨_,_,xs,_,dd⟩:=tD I.hok I.kIn e;exact dd.typeIs
def Ba(K:Za)(td ty:TE):TE:=fun σ H Q=>td σ H fun x H1=>ty σ H1 fun y H2=>∃a v,x=.ref a/\xF K H2 a y (some v)/\Q v H2
def Dw(K:Za)(ty td:TE):TE:=fun σ H Q=>ty σ H fun y H1=>td σ H1 fun x H2=>∃a o,x=.ref a/\xF K H2 a y o/\Q (.bl o.isSome) H2
def qV(K:Za)(ty td:TE):TE:=fun σ H Q=>ty σ H fun y H1=>td σ H1 fun x H2=>∃a o,x=.ref a/\xF K H2 a y o/\Q (.bl (!o.isSome)) H2
def sI(td ty tv:TE):TS:=fun D σ H=>tv σ H fun v H1=>td σ H1 fun x H2=>ty σ H2 fun y H3=>∃a H4,x=.ref a/\JR H3 a y v H4/\D.nx σ H4
section
variable{X:Cx}{o i e value:Expr}{pos pos' U1:Pos}{td ty tv:TE}
theorem ww(hu:X.A.units+16<cLine)(ho:PE X o td)(hi:PE X i ty)(hs:CU i):PE X (.Subscript o i pos) (Ba X.K td ty):=by
 intro J6 s σ H Q I h;refine FR PySem.F.slot_dict_getitem.lookup hs (cM (ho J6 s σ H _ I h) fun u s1 ⟨x,H1,I1,rx,q1⟩=>cM (hi J6 s1 σ H1 _ I1 q1) fun iv s2 ⟨y,H2,I2,ry,a,v,ex,g,q2⟩=>?_);subst ex;obtain rfl:u=Value.ref a:=rx;exact⟨yR I2 g,CN hu I2 g ry fun w' s3 I3 rw'=>⟨v,H2,I3,rw',q2⟩⟩
theorem wB(hu:X.A.units+16<cLine)(hi:PE X i ty)(ho:PE X o td):PC X .In i o (Dw X.K ty td):=by
 intro J6 s σ H Q I h;refine cM (hi J6 s σ H _ I h) fun iv s1 ⟨y,H1,I1,ry,q1⟩=>cM (ho J6 s1 σ H1 _ I1 q1) fun u s2 ⟨x,H2,I2,rx,a,ov,ex,g,q2⟩=>?_;subst ex;obtain rfl:u=Value.ref a:=rx;exact d_in hu I2 g ry fun s3 I3=>⟨.bl ov.isSome,H2,I3,rfl,q2⟩
theorem pq(hu:X.A.units+16<cLine)(hi:PE X i ty)(ho:PE X o td):PC X .NotIn i o (qV X.K ty td):=by
 intro J6 s σ H Q I h;refine cM (hi J6 s σ H _ I h) fun iv s1 ⟨y,H1,I1,ry,q1⟩=>cM (ho J6 s1 σ H1 _ I1 q1) fun u s2 ⟨x,H2,I2,rx,a,ov,ex,g,q2⟩=>?_;subst ex;obtain rfl:u=Value.ref a:=rx;exact GA hu I2 g ry fun s3 I3=>⟨.bl (!ov.isSome),H2,I3,rfl,q2⟩
theorem lO(hu:X.A.units+16<cLine)(ho:PE X o td)(hi:PE X i ty)(hv:PE X value tv)(hs:l_ value (some (.Subscript o i pos')) pos.line X.env=pure false):
  PS X (.Assign [.Subscript o i pos'] value pos) (sI td ty tv):=by
 intro J6 s σ H D I h;refine wpAny_Assign_Subscript (cM (hv J6 s σ H _ I h) fun r s1 ⟨v,H1,I1,rv,q1⟩=>cM (ho J6 s1 σ H1 _ I1 q1) fun u s2 ⟨x,H2,I2,rx,q2⟩=>cM (hi J6 s2 σ H2 _ I2 q2) fun iv s3 ⟨y,H3,I3,ry,a,H4,ex,g,q3⟩=>?_) hs;subst ex;obtain rfl:u=Value.ref a:=rx;exact CM hu I3 g ry rv fun s4 I4=>⟨σ,H4,I4,q3⟩
end
theorem Fh{P:bB}{w:World}{K:Za}{H:Hp}(h:Heap)(hb:jt<h.objs.size):cL P w K H (h.push { cls:=.type "dict",data:=.dict #[] }) h.objs.size (.dK []) :=
 ⟨bR _,beq_eq_false_iff_ne.mpr (cW (cx hb)),[],.nil,Heap.DictOf.new h⟩
theorem Fe{P:bB}{w:World}{K:Za}{H:Hp}(h:Heap)(hb:jt<h.objs.size):cL P w K H (h.push { cls:=.type "dict",data:=.dict #[] }) h.objs.size (.dT []) :=
 ⟨bR _,beq_eq_false_iff_ne.mpr (cW (cx hb)),[],.nil,_,#[],0,dz _ rfl,⟨rfl,rfl,rfl⟩,rfl,rfl,ix⟩
def v9:TE:=fun _ H Q=>∀p,H p=none->Q (.ref p) (upd H p (.dK []))
def v8:TE:=fun _ H Q=>∀p,H p=none->Q (.ref p) (upd H p (.dT []))
section
variable{X:Cx}{pos:Pos}
theorem sR:PE X (.Dict [] [] pos) v9:=fun J6 s σ H Q I h =>
 wpAny_Dict_empty ⟨.ref s.heap.objs.size,_,I.laid (a:=s.heap.objs.size) (o:=.dK []) (t':=s.toks) (fun _ _ q=>bb _ q) (aN _) (Fh s.heap I.big),rfl,h _ (I.hok.fresh (aN _))⟩
theorem sQ:PE X (.Dict [] [] pos) v8:=fun J6 s σ H Q I h =>
 wpAny_Dict_empty ⟨.ref s.heap.objs.size,_,I.laid (a:=s.heap.objs.size) (o:=.dT []) (t':=s.toks) (fun _ _ q=>bb _ q) (aN _) (Fe s.heap I.big),rfl,h _ (I.hok.fresh (aN _))⟩
end
def jk(kvs more:List (d9×V)):List (d9×V):=more.foldl (fun acc kv=>gL acc kv.1 kv.2) kvs
theorem KV.merge:∀{more:List (d9×V)}{rs:List (d9×Value)}{kvs:List (d9×V)}{vs:List (d9×Value)},KV more rs->KV kvs vs->KV (jk kvs more) (merged vs rs):=by
 intro more rs kvs vs r;unfold KV at r
 induction r generalizing kvs vs with
 |nil=>intro q;exact q
 |@cons p q ps qs h t ih =>
  intro r0;have e:KV (gL kvs p.1 p.2) (stored vs q.1 q.2):=by
   have:=r0.put p.1 h.2;rw[<-h.1];exact this
  exact ih e
theorem mh:∀(more kvs:List (d9×V)),(jk kvs more).length<=kvs.length+more.length
 |[],kvs=>by show kvs.length<=kvs.length+0;omega
 |p::r,kvs=>by
  have h1:=mh r (gL kvs p.1 p.2);have h2:=lg kvs p.1 p.2;show(jk (gL kvs p.1 p.2) r).length<=_;rw[cw];omega
structure M2(X:Cx)(o:Expr)(m:Str)(J8:Pos)(e f:Expr)(J7:Pos):Prop where
 base:uB o m X.env (eval o X.env)=eval o X.env
 few:((backTo J7 (aB [e,f] X.env)).all (fun x=>!x.1) && (oR J7 (oQ [] X.env)).all (fun x=>x.1.isSome)
  && decide (([e,f]:List Expr).length+([]:List Keyword).length+(if([]:List Keyword).isEmpty then 0 else 1)<30))=true
 line:(J8.endLine==J7.line)=true
 trees:backTo J7 (aB [e,f] X.env)=[(false,eval e X.env),(false,eval f X.env)]
def IsD(H:Hp)(a:Addr):Prop:=(∃kvs,Rd H a (.dK kvs))∨∃kvs,Rd H a (.dT kvs)
theorem Ip{X:Cx}{J6:Zd}{σ:St}{H:Hp}{s:Shared}{a:Addr}(I:Inv X J6 σ H s)(d:IsD H a):
  s.TypeIs (.ref a) "dict"/\(∀b,Value.ref a=.ref b->∃ob,s.heap.get? b=some ob/\ob.dict=none)/\(a==jt)=false:=by
 rcases d with⟨kvs,e⟩|⟨kvs,e⟩
 ·obtain⟨_,hd,vs,_,dd⟩:=qq I.hok e;refine⟨dd.typeIs,fun b q=>?_,hd⟩;cases q;obtain⟨ob,_,_,h1,h2,_⟩:=dd;exact⟨ob,h1,h2.2.1⟩
 ·obtain⟨_,hd,xs,_,dd⟩:=tD I.hok I.kIn e;refine⟨dd.typeIs,fun b q=>?_,hd⟩;cases q;obtain⟨ob,_,_,h1,h2,_⟩:=dd;exact⟨ob,h1,h2.2.1⟩
section
variable{X:Cx}{J6:Zd}{σ:St}{H:Hp}{s:Shared}{a:Addr}{y d:V}{u r:Value}{o:Option V}{A:Around}{E:Zc}
theorem IB{Q:Zc}(hu:A.units+16<cLine)(I:Inv X J6 σ H s)(g:xF X.K H a y o)(ry:RelV y u)(rd:RelV d r)(h:∀w' s',Inv X J6 σ H s'->RelV (o.getD d) w'->Q w' s'):
  wpAny (model X.prog X.w) A (call (.builtin "dict.get") [.ref a,u,r]) Q E s:=by
 rcases g with⟨kvs,k,e,ey,l⟩|⟨kvs,k,b,e,ey,eb,e8,l⟩
 ·subst ey;obtain⟨z,hd,vs,rel,dd⟩:=qq I.hok e;refine call_meetsIn PySem.F.slot_dict_get dd.typeIs PySem.F.entry_dict_get (PySem.F.args_dict_get_3 _ _ _) (meets_dict_get_default (bX X.prog X.w) a (kb ry) hd r) ⟨_,dd.mapOf,h _ _ (I.tok _) ?_⟩;rw[l];exact(rel.val k).getD rd
 ·subst ey;cases(show u=Value.ref b from ry);obtain⟨z,hd,xs,rel,dd⟩:=tD I.hok I.kIn e;refine call_meetsIn PySem.F.slot_dict_get dd.typeIs PySem.F.entry_dict_get (PySem.F.args_dict_get_3 _ _ _) (meetsH_dict_get_default (fH X.prog X.w) a b hd r) ⟨io hu,k,xs,wL I eb e8,dd,h _ _ (I.tok _) ?_⟩;rw[l];exact(rel.val k).getD rd
end
def Dx(K:Za)(td ty tx:TE):TE:=fun σ H Q=>td σ H fun x H1=>∃a,x=.ref a/\IsD H1 a/\ty σ H1 fun y H2=>tx σ H2 fun z H3=>∃o,xF K H3 a y o/\Q (o.getD z) H3
section
variable{X:Cx}{o e f:Expr}{J8 J7:Pos}{td ty tx:TE}
theorem Ej(hu:X.A.units+16<cLine)(ho:PE X o td)(he:PE X e ty)(hf:PE X f tx)(m:M2 X o "get" J8 e f J7):PE X (.Call (.Attribute o "get" J8) [e,f] [] J7) (Dx X.K td ty tx):=by
 intro J6 s σ H Q I h;refine wpAny_Call_method m.base m.few m.line PySem.F.plainAttrs_dict PySem.F.slot_dict_get PySem.F.type_dict_get (cM (ho J6 s σ H _ I h) fun u s1 ⟨x,H1,I1,rx,a,ex,d,q1⟩=>?_);subst ex;obtain rfl:u=Value.ref a:=rx;obtain⟨t1,t2,_⟩:=Ip I1 d;refine⟨t1,t2,?_⟩;rw[m.trees];refine Calls.callWith_builtin rfl (Calls.evalArgs_plain (Calls.spliced_cons (cM (he J6 s1 σ H1 _ I1 q1) fun iv s2 ⟨y,H2,I2,ry,q2⟩ =>
  Calls.spliced_cons (cM (hf J6 s2 σ H2 _ I2 q2) fun fv s3 ⟨z,H3,I3,rz,ov,g,q3⟩=>Calls.spliced_nil ?_))))
 exact IB hu I3 g ry rz fun w' s4 I4 rw'=>⟨_,H3,I4,rw',q3⟩
end
end L2
namespace Att
open PySem PySem.W PySem.Calls PyProof.Rows
theorem ints_of_wellAll{P:Params}{h:Heap}:∀(ns:List Int) (vs:Zf),WellAll P h vs (ns.map WData.int)->rX vs ns:=by
 intro ns
 induction ns with
 |nil =>
  intro vs w;rw[List.map_nil]at w;cases w;exact .nil
 |cons n ns ih =>
  intro vs w;rw[bf]at w;cases w with
  |cons a b =>
   cases a;exact .cons _ _ (ih _ b)
theorem script_of{l:OpenLaw}{n:Nat}(hn:l.most=some n){P:Params}{h:Heap}{args:List WData}{vals:Zf}
  (hpre:l.row.toRowW.claim.pre args=true) (hwl:WellAll P h vals args) :
  ∃a vs ns,vals=[Value.ref a]/\args=[WData.list (ns.map WData.int)]/\h.get? a=some { cls:=.type "list",data:=.seq vs.toArray }/\rX vs ns/\ns.length<=n:=by
 have hsh:WShape.hasAll [] args [.list .int]=true:=(pre_splitW hpre).1;have hc:l.pre.holds [] { args:=args }=true:=(pre_splitW hpre).2;obtain⟨d,r,rfl,h1,h2⟩:=hasAllW_cons hsh;obtain rfl:=hasAllW_nil h2;obtain⟨xs,rfl,h3⟩:=hasW_list h1;obtain⟨ns,rfl⟩:=items_int h3;have hlen:ns.length<=n:=by
  unfold OpenLaw.pre at hc;have h4:(WTm.not (.lt (.lit (.int (n:Int))) (.len (.arg 0)))).holds [] { args:=[.list (ns.map .int)] }=true:=by
   have h4:=(holds_andW hc).1;rw[hn]at h4;exact h4
  have h5:=condW_of h4 (w_not (w_lt w_lit (w_len_list (w_arg rfl))));rw[am]at h5;refine Nat.le_of_not_lt fun q=>?_;have q':(n:Int)<((ns.length:Nat):Int):=by omega
  first
   | (rw[zzr1 q']at h5;exact absurd h5 (by decide))
   | (simp at h5;omega)
 cases hwl with
 |cons w1 w2 =>
  cases w2;cases w1 with
  |list ho hall=>exact⟨_,_,ns,rfl,rfl,ho,ints_of_wellAll ns _ hall,hlen⟩
theorem post_true(l:OpenLaw)(args:List WData):l.row.toRowW.claim.post args (.bool true) args=true :=
 postW_of (r:=l.row.toRowW) (X:=(true==true))
  (show WShape.has [] (.bool true) .bool=true by first|rfl|decide|simp[WShape.has,WShape.arms,WShape.armsAll])
  (show(WTm.eq .res (.lit (.bool true))).value [] { args:=args,res:=some (.bool true),after:=args }=some (.bool (true==true))from w_eq_bool (w_res rfl) w_lit) rfl
theorem attach_call{l:OpenLaw}{n:Nat}{q:bB}{loose:Zb}{XP:(Str->Option Value)->Heap->Prop}{YP:World->Heap->Prop}{d:DefRec}
  (hn:l.most=some n) (hdf:d.params.defaults=[])
  (call:∀(w:World) (s₀ s₁:Shared) (mg mb:Str->Option Value) (fa:Addr) (o:Obj) (pm cd doc:Value) (a:Addr) (vs:Zf) (ns:List Int),
   Ground q loose [] XP w s₀ mg mb s₁.heap->YP w s₁.heap ->
   s₁.heap.get? fa=some o->o.data=.func (docDef d.name d.params d.body d.scope pm cd doc)->s₁.heap.CodeRec cd d.name->mg d.name=some (.ref fa) ->
   s₁.heap.get? a=some { cls:=.type "list",data:=.seq vs.toArray }->rX vs ns->ns.length<=n->s₁.gens=#[] ->
   zzl83 (model l.prog w) kG (.call (.ref fa) ⟨[.ref a],[]⟩) (fun r s'=>r=.ok (.ret (.bool true))/\OldK s₁.heap s'.heap/\s'.os=s₁.os/\ma s'.gens) s₁) :
  WalkO q loose XP YP l.row.toRowW d [] (fun f vs=>PySem.call f vs):=by
 intro w s₀ s₁ mg mb G Y fa o pm cd doc dV kV ho hd hcd hD hmg hg args vals as hpre hlay hrd hwl hlo;obtain rfl:dV=.none:=Dflts.none hD hdf;obtain rfl:kV=.none:=Dflts.noKw hD;obtain⟨a,vs,ns,rfl,rfl,hobj,hints,hlen⟩:=script_of hn hpre hwl;refine enter_call (uA (call w s₀ s₁ mg mb fa o pm cd doc a vs ns G Y ho (fd_plain hd) hcd hmg hobj hints hlen hg) fun r s' hq=>?_);obtain⟨rfl,h2,h3,h4⟩:=hq;exact⟨.inl ⟨.bool true,.bool true,[],rfl,fun _=>rfl,.bool true,post_true l _,fun _=>⟨List.Pairwise.nil,fun _ hm=>(nomatch hm)⟩⟩,h2,h3,h4⟩
end Att
namespace L2
open PySem PySem.Spec PyProof.Rows
theorem uH:∀{vs:Zf}{ns:List Int},rX vs ns->bg (ns.map V.int) vs
 |_,_,.nil=>.nil
 |_,_,.cons n t h=>.cons ⟨t,rfl⟩ (uH h)
def GN(H:Hp):Prop:=∀b,H b=none∨∃o xs,H b=some (.frz o (.lst xs))
theorem EM{P:bB}{w:World}{K:Za}{mg mb:Str->Option Value}{CX:C6}{k:Nat}{fa a:Addr}{fd:hZ}{x:Str}{sp:Sp}{s₁:Shared}{vs:Zf}{ns:List Int}
  (KX:K.In s₁.heap) (hns:s₁.heap.Ns bV mg) (hb:s₁.heap.Ns builtinsNs mb) (hbb:∀x:Str,x≠"__name__"->mb x=iX x) (hlim:s₁.heap.NoLimit) (hg:s₁.gens=#[])
  (ha:s₁.heap.get? a=some { cls:=.type "list",data:=.seq vs.toArray }) (hi:rX vs ns) (hl:ns.length<=aj) (hr:du k kG)
  (F:∀base:Heap,K.In base->base.Ns bV mg->ik P w K mg base CX k fa fd [x] sp) (hbind:∀(s:Shared) (u:Value),rC s fd ⟨[u],[]⟩ [(x,u)])
  (hsp:∀H:Hp,GN H->aA K H a (ns.map V.int)->sp [.ref a] H (fun v _=>v=.bl true) fun _ _ _=>False)
  (hCX:∀H e s',CX [] H s₁ (fun _ _ _=>False) e s'->False) :
  zzl83 (model P w) kG (.call (.ref fa) ⟨[.ref a],[]⟩) (fun r s'=>r=.ok (.ret (.bool true))/\OldK s₁.heap s'.heap/\s'.os=s₁.os/\ma s'.gens) s₁:=by
 have rv:=uH hi;have lenV:=hi.length;have core:∀H:Hp,GN H->aA K H a (ns.map V.int)->ki P w K H s₁.heap->(∀b,H b≠none->b=a)->(H a≠none->K.lookup a=none) ->
   zzl83 (model P w) kG (.call (.ref fa) ⟨[.ref a],[]⟩) (fun r s'=>r=.ok (.ret (.bool true))/\OldK s₁.heap s'.heap/\s'.os=s₁.os/\ma s'.gens) s₁:=by
  intro H hO hS hok hA hK;have base_of:∀{b:Addr}{o:Obj},s₁.heap.get? b=some o->H b=none->(wN s₁.heap H).get? b=some o:=fun e n=>ES e n;have noA:∀{b:Addr}{o:Obj}{es:Array DictEntry}{ep:Nat},s₁.heap.get? b=some o->o.data=.dict es ep->H b=none:=fun{b o es ep} e d=>by
   cases q:H b with
   |none=>rfl
   |some u =>
    have e':b=a:=hA b (by rw[q];simp);subst e';rw[ha]at e;cases e;have d':Data.seq vs.toArray _=Data.dict es ep:=d;cases d'
  have nsK:∀{b:Addr}{m:Str->Option Value},s₁.heap.Ns b m->(wN s₁.heap H).Ns b m:=fun{b m} ⟨o,es,ep,e,d,r⟩=>⟨o,es,ep,base_of e (noA e d),d,r⟩;have hKb:K.In (wN s₁.heap H):=fun b o e=>base_of (KX b o e) (by
   cases q:H b with
   |none=>rfl
   |some u =>
    have e':b=a:=hA b (by rw[q];simp);subst e';rw[hK (by rw[q];simp)]at e;cases e)
  have hM:Mod K mg (wN s₁.heap H):=⟨hKb,nsK hns,⟨mb,nsK hb,hbb⟩,let⟨mc,h1,h2⟩:=hlim;⟨mc,nsK h1,h2⟩⟩;have e0:AJ P w K mg (wN s₁.heap H) kG [] s₁ H:=⟨rfl,hM,fun b o e=>Gk e,Nat.le_of_eq (CI _ _),trivial,fun b hb=>absurd (show b∈([]:Ze)from hb) (by simp),hok,.of_eq hg⟩;refine uA ((F _ hKb (nsK hns)).run kG [] s₁ H ⟨[.ref a],[]⟩ [.ref a] [.ref a] _ _ hr e0 (hbind s₁ (.ref a)) (.cons rfl .nil) (hsp H hO hS)) fun r s' h=>?_;cases r with
  |error e=>exact(hCX H e s' h).elim
  |ok fl =>
   cases fl with
   |next=>exact da h
   |brk=>exact da h
   |cont=>exact da h
   |ret u =>
    obtain⟨v,H',os,bare,un,hok',r',q⟩:=h;have q':v=.bl true:=q;subst q';obtain rfl:u=Value.bool true:=r';refine⟨rfl,OldK.of_keep fun b o e=>?_,os,bare⟩;cases q:H b with
    |none=>exact un.keep b o e q (by intro z;exact absurd (show b∈([]:Ze)from z) (by simp)) (by simp)
    |some u =>
     rcases hO b with z|⟨ob,xs,z⟩
     ·rw[q]at z;cases z
     ·have z2:=un.frzs b ob _ z;obtain⟨e1,_⟩:=hok b _ z;obtain⟨e2,_⟩:=hok' b _ z2;rw[e]at e1;cases e1;exact e2
 cases hk:K.lookup a with
 |some o =>
  have e:=KX a o hk;rw[ha]at e;cases e;refine core (fun _=>none) (fun _=>.inl rfl) (.inr ⟨_,vs.toArray,_,hk,rfl,rfl,rfl,by rw[cr,lenV];exact hl,by simpa using rv⟩) (fun b u z=>by have z':(none:Option HO)=some u:=z;cases z') (fun b z=>absurd rfl z) fun z=>absurd rfl z
 |none =>
  refine core (fun b=>if b=a then some (.frz { cls:=.type "list",data:=.seq vs.toArray } (.lst (ns.map V.int)))else none) (fun b=>?_) (.inl (.inr ⟨{ cls:=.type "list",data:=.seq vs.toArray },if_pos rfl⟩)) (fun b u z=>?_) (fun b z=>?_) fun _=>hk
  ·by_cases hb:b=a
   ·exact .inr ⟨_,_,if_pos hb⟩
   ·exact .inl (if_neg hb)
  ·by_cases hb:b=a
   ·have z':=(if_pos hb).symm.trans z;cases z';subst hb;exact⟨ha,by rw[am];exact hl,vs,_,rv,ha⟩
   ·have z':=(if_neg hb).symm.trans z;cases z'
  ·by_cases hb:b=a
   ·exact hb
   ·exact absurd (if_neg hb) z
end L2
namespace L2
open PySem PySem.Spec PyProof.Rows
theorem FJ{l:PySem.W.OpenLaw}{n k:Nat}{q:bB}{loose:Zb}{XP:(Str->Option Value)->Heap->Prop}{YP:World->Heap->Prop}{d:DefRec}{K:Params->Za}{CX:World->C6}{sp:World->Sp}{x:Str}
  (hn:l.most=some n) (hn2:n<=aj) (hdf:d.params.defaults=[]) (hr:du k kG)
  (hY:∀(w:World) (h:Heap),YP w h->(K w.params).In h)
  (F:∀(w:World) (mg:Str->Option Value) (fa:Addr) (h:Heap),(K w.params).In h->h.Ns bV mg->mg d.name=some (.ref fa) ->
   ∃fd:hZ,(∀(s:Shared) (u:Value),rC s fd ⟨[u],[]⟩ [(x,u)]) /\
    ∀base:Heap,(K w.params).In base->base.Ns bV mg->ik l.prog w (K w.params) mg base (CX w) k fa fd [x] (sp w))
  (hsp:∀(w:World) (H:Hp) (a:Addr) (ns:List Int),ns.length<=n->GN H->aA (K w.params) H a (ns.map V.int)->sp w [.ref a] H (fun v _=>v=.bl true) fun _ _ _=>False)
  (hCX:∀(w:World) (H:Hp) (s:Shared) (e:Value) (s':Shared),CX w [] H s (fun _ _ _=>False) e s'->False) :
  PySem.W.WalkO q loose XP YP l.row.toRowW d [] (fun f vs=>PySem.call f vs):=by
 refine Att.attach_call hn hdf fun w s₀ s₁ mg mb fa o pm cd doc a vs ns G Y ho hd hcd hmg hobj hints hlen hg=>?_;have KX:=hY w _ Y;obtain⟨fd,hb,hF⟩:=F w mg fa _ KX G.T.g hmg;exact EM KX G.T.g G.T.b G.T.builtins G.T.nolimit hg hobj hints (bj hlen hn2) hr hF hb (fun H hO hS=>hsp w H a ns hlen hO hS) fun H e s'=>hCX w H s₁ e s'
theorem walk_ofK{l:PySem.W.OpenLaw}{n k:Nat}{q:bB}{loose:Zb}{XP:(Str->Option Value)->Heap->Prop}{YP:World->Heap->Prop}{d:DefRec}{K:Params->Za}{CX:C6}{sp:Za->Sp}{x:Str}
  (hn:l.most=some n) (hn2:n<=aj) (hdf:d.params.defaults=[]) (hr:du k kG)
  (hY:∀(w:World) (h:Heap),YP w h->(K w.params).In h)
  (F:∀(w:World) (mg:Str->Option Value) (fa:Addr) (h:Heap),(K w.params).In h->h.Ns bV mg->mg d.name=some (.ref fa) ->
   ∃fd:hZ,(∀(s:Shared) (u:Value),rC s fd ⟨[u],[]⟩ [(x,u)]) /\
    ∀base:Heap,(K w.params).In base->base.Ns bV mg->ik l.prog w (K w.params) mg base CX k fa fd [x] (sp (K w.params)))
  (hsp:∀(K:Za) (H:Hp) (a:Addr) (ns:List Int),ns.length<=n->GN H->aA K H a (ns.map V.int)->sp K [.ref a] H (fun v _=>v=.bl true) fun _ _ _=>False)
  (hCX:∀(H:Hp) (s:Shared) (e:Value) (s':Shared),CX [] H s (fun _ _ _=>False) e s'->False) :
  PySem.W.WalkO q loose XP YP l.row.toRowW d [] (fun f vs=>PySem.call f vs) :=
 FJ (K:=K) (CX:=fun _=>CX) (sp:=fun w=>sp (K w.params)) hn hn2 hdf hr hY F (fun w H a ns h1 h2 h3=>hsp (K w.params) H a ns h1 h2 h3) fun _ H s e s'=>hCX H s e s'
end L2
namespace L2
open PySem PySem.Spec PyProof.Rows
def jY(s:Stmt)(j:Nat):Stmt:=match s with
 |.ClassDef _ _ _ body _ _ _ _ _ _ _=>body.getD j (.Pass ⟨0,0,0,0⟩)
 |_=>.Pass ⟨0,0,0,0⟩
def ig(s:Stmt):Arguments:=match s with
 |.FunctionDef _ a _ _ _ _ _ _ _ _=>a
 |_=>{ posonlyargs:=[],args:=[],vararg:=none,kwonlyargs:=[],kw_defaults:=[],kwarg:=none,defaults:=[] }
def fc(s:Stmt):List Stmt:=match s with
 |.FunctionDef _ _ b _ _ _ _ _ _ _=>b
 |_=>[]
def bq(s:Stmt):Scope:=match s with
 |.FunctionDef _ _ _ _ _ _ sc _ _ _=>sc
 |_=>{ kind:=.function,names:=[],isGenerator:=false,isCoroutine:=false }
abbrev CX0:C6:=fun _ _ _ _ _ _=>False
abbrev E0:XK:=fun _ _ _=>False
abbrev aR(sp:Sp)(a:TA):TE:=qi sp [] E0 a
theorem Em{X:Cx}:mT CX0 X E0:=fun _ _ _ _ _ _ _ h=>h.elim
structure Hu(K:Za)(x qual:Str)(st:Stmt)(f:Addr)(fd:hZ):Prop where
 ex:∃(oc:Value) (od:Option Addr) (kV doc pm:Value) (an:Option Addr) (cdv ct:Value) (osl:Array (Option Value)),
  fd=iy x qual (ig st) (fc st) (bq st) .none kV doc pm an cdv ct/\K.lookup f=some ⟨oc,od,.func fd,osl⟩/\mz K cdv qual=true
 kp:eh K (.ref f)=true
section
variable{P:bB}{w:World}{K:Za}{mg:Str->Option Value}{base:Heap}
theorem Hu.ok{x qual:Str}{st:Stmt}{f:Addr}{fd:hZ}{N ps:Zb}{k:Nat}{sp:Sp}(F:Hu K x qual st f fd)(S:fX N ps (bq st))(len:∀vs H Q E,sp vs H Q E->vs.length=ps.length)
  (hbody:∀(cdv:Value) (A:Around) (outer:List Env) (s:Shared) (H:Hp) (vs:List V) (Q:VK) (E:XK),du k (A.deeper (envOfC qual (bq st) s.heap.objs.size f cdv))->sp vs H Q E ->
   ∃t,xy (tG CX0 P w K mg base N qual (bq st) f cdv A outer s H E).nox (fc st) t/\t (bT Q) (start N vs) H):ik P w K mg base CX0 (k+1) f fd ps sp:=by
 obtain⟨oc,od,kV,doc,pm,an,cdv,ct,osl,rfl,lk,hcd⟩:=F.ex;refine Hc lk hcd S len fun A outer s H vs Q E hr hsp=>?_;obtain⟨t,h,q⟩:=hbody cdv A outer s H vs Q E hr hsp;exact⟨t,h.nox,q⟩
theorem Hu.binds{x qual:Str}{st:Stmt}{f:Addr}{fd:hZ}{ps:Zb}(F:Hu K x qual st f fd)
  (h:∀(kV doc pm:Value) (an:Option Addr) (cdv ct:Value) (us:Zf),us.length=ps.length->bindArgs (iy x qual (ig st) (fc st) (bq st) .none kV doc pm an cdv ct) ⟨us,[]⟩=pure (ps.zip us)):Binds K fd ps []:=by
 obtain⟨oc,od,kV,doc,pm,an,cdv,ct,osl,rfl,lk,hcd⟩:=F.ex;exact .all (h kV doc pm an cdv ct)
theorem EZ{x qual:Str}{st:Stmt}{f:Addr}{oc:Value}{od an:Option Addr}{osl:Array (Option Value)}{kV doc pm cdv ct:Value}(l:K.lookup f=some ⟨oc,od,.func (iy x qual (ig st) (fc st) (bq st) .none kV doc pm an cdv ct),osl⟩)
  (c:mz K cdv qual=true) (k:eh K (.ref f)=true):Hu K x qual st f (iy x qual (ig st) (fc st) (bq st) .none kV doc pm an cdv ct):=⟨⟨oc,od,kV,doc,pm,an,cdv,ct,osl,rfl,l,c⟩,k⟩
end
theorem tf{A:Around}{k:Nat}(hr:du k A):A.units+16<cLine:=vL (Nat.add_le_add_left (by decide:16<=64) _) hr.units
theorem bC{n:Nat}(h:n<=1000):n<aj:=vL h (by decide)
section
variable{X:Cx}
theorem pv(i:Nat){x:Str}{pos:Pos}(hN:X.N[i]?=some x:=by rfl)(hv:Vis X.env.scope x:=by first|exact Or.inl rfl|exact Or.inr (Or.inl rfl)|exact Or.inr (Or.inr rfl))(hd:(x==("__debug__":Str))=false:=by decide)
  (hcd:(x==("__classdict__":Str))=false:=by decide):PE X (.Name x pos) (lW i):=Ic hN hv hd hcd
end
theorem bu{A B:Prop}(h:B):if false=true then A else B:=by
 rw[if_neg jr];exact h
theorem bE{A B:Prop}(h:A):if true=true then A else B:=by
 rw[if_pos rfl];exact h
theorem eA{c A B:Prop}[Decidable c](h1:c->A)(h2:¬c->B):if c then A else B:=by
 by_cases h:c
 ·rw[if_pos h];exact h1 h
 ·rw[if_neg h];exact h2 h
def ae(H H':Hp):Prop:=∀b o,H b=some o->H' b=some o
theorem ae.refl(H:Hp):ae H H:=fun _ _ h=>h
theorem ae.trans{H H1 H2:Hp}(a:ae H H1)(b:ae H1 H2):ae H H2:=fun c o h=>b c o (a c o h)
theorem ae.free{H H':Hp}(e:ae H H'){l:Addr}(h:H' l=Option.none):H l=Option.none:=by
 cases q:H l with
 |none=>rfl
 |some o =>
  rw[e l o q]at h;cases h
theorem ae.seq{K:Za}{H H':Hp}{a:Addr}{xs:List V}(e:ae H H')(h:aA K H a xs):aA K H' a xs:=by
 rcases h with(h|⟨o,h⟩)|h
 ·exact .inl (.inl (e _ _ h))
 ·exact .inl (.inr ⟨o,e _ _ h⟩)
 ·exact .inr h
section
variable{prog:bB}{w:World}{A:Around}{R:Result->Shared->Prop}{s:Shared}
abbrev XF:Value->Shared->Prop:=fun _ _=>False
abbrev An(ifs:List Expr)(env:Env):Sem Bool:=forIn ifs true fun c r=>if r=true then do let ok <- isTrue c env (eval c env);pure (vK ok)else pure (vK r)
theorem xi{elt target iter:Expr}{ifs:List Expr}{scope:Scope}{pos:Pos}{it acc:Value}{env:Env}(I:Nat->Shared->Prop)
  (turn:∀n s,I n s->wpAny (model prog w) A (pyNext it) (fun r s₁=>match r with
   |none=>R (.ok .next) s₁
   |some v=>wpAny (model prog w) A (AT target it v) (fun _ s₁'=>wpAny (model prog w) A (assign target env v) (fun _ s₂ =>
     wpAny (model prog w) A (An ifs env) (fun ok s₃ =>
      if ok=true then wpAny (model prog w) A (eval elt env) (fun x s₄ =>
       wpAny (model prog w) A (call (.builtin "list.append") [acc,x]) (fun _ s₅=>∃m,m<n/\I m s₅) XF s₄) XF s₃
      else ∃m,m<n/\I m s₃) XF s₂) XF s₁') XF s₁) XF s)
  (n:Nat) (h:I n s):zzl83 (model prog w) A (.compLoop (.ListComp elt [⟨target,iter,ifs,0⟩] scope pos) 0 it acc env) R s:=by
 refine codeAny_loop rfl I (fun n s hI=>?_) n h;show wpAny _ A ((compTurn (.ListComp elt [⟨target,iter,ifs,0⟩] scope pos) 0 it acc env).onRaise (fun x=>do jK x env;theTreesLotGoes x)) _ _ s
 refine wpAny_noted ?_;rw[compTurn_list];refine ao (p_ (ao (bU (turn n s hI) (fun r s₁ h₁=>?_) fun _ _ h'=>h'.elim)));cases r with
 |none=>exact a_ h₁
 |some v =>
  refine ao (bU h₁ (fun _ s₁' h₁'=>?_) fun _ _ h'=>h'.elim);refine ao (bU h₁' (fun _ s₂ h₂=>ao (bU h₂ (fun ok s₃ h₃=>?_) fun _ _ h'=>h'.elim)) fun _ _ h'=>h'.elim);cases ok with
  |false=>exact a_ ⟨rfl,h₃⟩
  |true =>
   exact ao (ao (bU h₃ (fun x s₄ h₄=>ao (bU h₄ (fun _ s₅ h₅=>a_ (a_ ⟨rfl,h₅⟩)) fun _ _ h'=>h'.elim)) fun _ _ h'=>h'.elim))
end
theorem mQ{env:Env}:∀(names:List (Str×gf)) (cs0:List (Str×Addr)),(∀y∈names,y.2=.free->∃c,env.cells.lookup y.1=some c)->(∀x c,cs0.lookup x=some c->env.cells.lookup x=some c) ->
  ∃cs:List (Str×Addr),(forIn names cs0 fun(x:Str×gf) (r:List (Str×Addr))=>if(x.2==kF)=true then(cellOf env x.1 >>= fun c=>(pure (vK ((x.1,c)::r)):Sem (ForInStep (List (Str×Addr)))))else pure (vK r))=pure cs /\
   (∀x c,cs.lookup x=some c->env.cells.lookup x=some c)/\(∀x,(cs0.lookup x).isSome=true->(cs.lookup x).isSome=true)/\∀y∈names,y.2=.free->(cs.lookup y.1).isSome=true
 |[],cs0,_,h0=>⟨cs0,rfl,h0,fun _ h=>h,fun _ h=>nomatch h⟩
 | (n,k)::r,cs0,has,h0=>by
  have hr:∀y∈r,y.2=.free->∃c,env.cells.lookup y.1=some c:=fun y hy=>has y (cj _ hy);by_cases hk:k=.free
  ·subst hk;obtain⟨c,hc⟩:=has (n,.free) cp rfl;obtain⟨cs,e,p1,p2,p3⟩:=mQ r ((n,c)::cs0) hr (fun x d hd=>by
    rw[g7]at hd;cases hx:x==n with
    |true =>
     rw[hx]at hd;have:x=n:=by simpa using hx
     subst this;cases hd;exact hc
    |false=>rw[hx]at hd;exact h0 x d hd)
   have hself:(((n,c)::cs0).lookup n).isSome=true:=by rw[g7,beq_self_eq_true];rfl
   have hmono:∀x,(cs0.lookup x).isSome=true->(((n,c)::cs0).lookup x).isSome=true:=fun x hx=>by
    rw[g7];cases x==n with
    |true=>rfl
    |false=>exact hx
   refine⟨cs,?_,p1,fun x hx=>p2 x (hmono x hx),fun y hy hf=>?_⟩
   ·rw[rW];have hcell:cellOf env n=pure c:=by unfold cellOf;rw[hc]
    simp only[beq_self_eq_true,if_true,hcell];exact e
   ·rcases bw.mp hy with rfl|hy
    ·exact p2 _ hself
    ·exact p3 y hy hf
  ·obtain⟨cs,e,p1,p2,p3⟩:=mQ r cs0 hr h0;refine⟨cs,?_,p1,p2,fun y hy hf=>?_⟩
   ·rw[rW];have hb:(k==kF)=false:=by simpa using hk
    simp only[hb,uG,if_false];exact e
   ·rcases bw.mp hy with rfl|hy
    ·exact absurd hf hk
    ·exact p3 y hy hf
theorem tL{env:Env}{scope:Scope}(has:∀y∈scope.names,y.2=.free->∃c,env.cells.lookup y.1=some c):
  ∃cs:List (Str×Addr),closureFor scope env=pure cs/\(∀x c,cs.lookup x=some c->env.cells.lookup x=some c)/\∀y∈scope.names,y.2=.free->(cs.lookup y.1).isSome=true:=by
 obtain⟨cs,e,p1,_,p3⟩:=mQ (env:=env) scope.names [] has (fun _ _ h=>nomatch h);refine⟨cs,?_,p1,p3⟩;unfold closureFor
 first
  |exact e
  | (simp only[bind_pure];exact e)
  | (rw[show(forIn scope.names [] _:Sem (List (Str×Addr)))=pure cs from e];rfl)
def dW(X:Cx)(N:Zb)(scope:Scope)(C:Addr)(cl:List (Str×Addr))(s₀:Shared)(H₀:Hp)(ex:Ze)(pn:Zd):Cx where
 prog:=X.prog
 w:=X.w
 K:=X.K
 mg:=X.mg
 base:=X.base
 A:=X.A
 N:=N
 s₀:=s₀
 H₀:=H₀
 env:=compEnvC scope cl C X.env
 outer:=X.stack
 stack:=X.stack
 ex:=ex
 fn:=fun _=>false
 calm:=X.calm
 pn:=pn
 xe:=XF
def lV(sc scope:Scope)(k:Nat)(N XN:Zb)(fi:List Nat):Bool :=
 decide (scope.kind=.function) &&
 (scope.names.all fun y=>decide (y.2≠.cell) && (decide (y.2≠.local) || decide (scope.names.lookup y.1=some .local)) && (decide (y.2≠.free) || decide (sc.names.lookup y.1=some .cell) || decide (sc.names.lookup y.1=some .free))) &&
 decide (N.length=k+fi.length) &&
 ((ng fi.length).all fun j=>match fi[j]? with
  |some i=>match N[k+j]?,XN[i]? with
   |some x,some y=>decide (x=y) && decide (scope.names.lookup x=some .free)
   |_,_=>false
  |none=>false)
structure mW(sc scope:Scope)(k:Nat)(N XN:Zb)(fi:List Nat):Prop where
 kind:scope.kind=.function
 cell:∀y∈scope.names,y.2≠.cell
 nm:∀y∈scope.names,y.2=.local->scope.names.lookup y.1=some .local
 fr:∀y∈scope.names,y.2=.free->sc.names.lookup y.1=some .cell∨sc.names.lookup y.1=some .free
 len:N.length=k+fi.length
 sl:∀j i,fi[j]?=some i->∃x,N[k+j]?=some x/\XN[i]?=some x/\scope.names.lookup x=some .free
theorem mW.of{sc scope:Scope}{k:Nat}{N XN:Zb}{fi:List Nat}(h:lV sc scope k N XN fi=true):mW sc scope k N XN fi:=by
 unfold lV at h;simp only[iw,List.all_eq_true,Bool.or_eq_true,decide_eq_true_eq]at h;obtain⟨⟨⟨h1,h2⟩,h3⟩,h4⟩:=h;refine⟨h1,fun y hy=>(h2 y hy).1.1,fun y hy e=>((h2 y hy).1.2).resolve_left fun z=>z e,fun y hy e=>?_,h3,fun j i e=>?_⟩
 ·rcases(h2 y hy).2 with(z|z)|z
  ·exact absurd e z
  ·exact .inl z
  ·exact .inr z
 ·have hj:j<fi.length:=(db.mp e).1;have q:=h4 j (List.mem_range.mpr hj);rw[e]at q;dsimp only at q;cases a:N[k+j]? with
  |none=>rw[a]at q;cases q
  |some x =>
   cases b:XN[i]? with
   |none=>rw[a,b]at q;cases q
   |some y =>
    rw[a,b]at q;simp only[iw,decide_eq_true_eq]at q;exact⟨x,rfl,by rw[q.1],q.2⟩
theorem h9{env:Env}:∀{names:List (Str×gf)}{x:Str},names.lookup x=some .free ->
  (names.map fun(n,k)=>if(k==kF && env.scope.kind==.function && env.kindOf n==some .cell)then(n,gf.cell)else(n,k)).lookup x=some .cell ∨
  (names.map fun(n,k)=>if(k==kF && env.scope.kind==.function && env.kindOf n==some .cell)then(n,gf.cell)else(n,k)).lookup x=some .free
 |[],_,h=>by simp at h
 | (n,k)::r,x,h=>by
  have ih:=@h9 env r x;simp only[bf];cases hx:x==n with
  |true =>
   simp only[g7,hx]at h;cases h;by_cases hc:(kF==kF && env.scope.kind==.function && env.kindOf n==some .cell)=true
   ·left;rw[if_pos hc];simp[g7,hx]
   ·right;rw[if_neg hc];simp[g7,hx]
  |false =>
   simp only[g7,hx]at h;by_cases hc:(k==kF && env.scope.kind==.function && env.kindOf n==some .cell)=true
   ·rw[if_pos hc];simp only[g7,hx];exact ih h
   ·rw[if_neg hc];simp only[g7,hx];exact ih h
def ef(k:Nat)(fi:List Nat)(σ:St):St:=kI k none++fi.map fun i=>(σ[i]?).join
theorem Aw(k:Nat)(fi:List Nat)(σ:St):(ef k fi σ).length=k+fi.length:=by simp[ef]
theorem tJ{k:Nat}{fi:List Nat}{σ:St}{i:Nat}{v:V}(h:(ef k fi σ)[i]?=some (some v)):∃j t,i=k+j/\fi[j]?=some t/\σ[t]?=some (some v):=by
 unfold ef at h;by_cases hi:i<k
 ·rw[kH (by simpa using hi),List.getElem?_replicate_of_lt hi]at h;cases h
 ·rw[oO (by simp;omega),vQ,cb]at h;refine⟨i-k,?_⟩;cases e:fi[i-k]? with
  |none=>rw[e]at h;cases h
  |some t =>
   rw[e]at h;simp only[r8]at h;refine⟨t,by omega,rfl,?_⟩;have h':=dX h;cases e2:σ[t]? with
   |none=>rw[e2]at h';cases h'
   |some o=>rw[e2]at h';simp only[Option.join]at h';first|(rw[h'])|(subst h';rfl)|(simpa using h')
def yZ(k:Nat)(g:TG):Prop:=∀x σ H Q,g x σ H Q->g x σ H fun σ2 H2=>Q σ2 H2/\σ2.length=σ.length/\∀i,k<=i->σ2[i]?=σ[i]?
def BU(k:Nat)(g:xK):Prop:=∀x σ H Q,g x σ H Q->g x σ H fun σ2 H2=>Q σ2 H2/\σ2.length=σ.length/\∀i,k<=i->σ2[i]?=σ[i]?
theorem bS{k i:Nat}(h:i<k):yZ k (d4 i):=fun x σ H Q q=>⟨q,by simp,fun j hj=>by rw[AX (by omega)]⟩
theorem En{k:Nat}:BU k g_:=fun x σ H Q ⟨e,q⟩=>⟨e,q,rfl,fun _ _=>rfl⟩
def Fu(g:TG):Prop:=∀x σ H Q Q',(∀σ2 H2,Q σ2 H2->Q' σ2 H2)->g x σ H Q->g x σ H Q'
def xC(g:xK):Prop:=∀x σ H Q Q',(∀σ2 H2,Q σ2 H2->Q' σ2 H2)->g x σ H Q->g x σ H Q'
theorem pC{i:Nat}:Fu (d4 i):=fun _ _ _ _ _ f q=>f _ _ q
theorem u4:xC g_:=fun _ _ _ _ _ f ⟨e,q⟩=>⟨e,f _ _ q⟩
theorem Aa{g:TG}{u:xK}(h1:Fu g)(h2:xC u):xC (be g u):=fun _ _ _ _ _ f ⟨v,r,e,q⟩=>⟨v,r,e,h1 _ _ _ _ _ (fun _ _ q=>h2 _ _ _ _ _ f q) q⟩
theorem uY{k:Nat}{g:TG}{u:xK}(h1:yZ k g)(m1:Fu g)(h2:BU k u)(m2:xC u):BU k (be g u):=fun x σ H Q ⟨v,r,e,q⟩ =>
 ⟨v,r,e,m1 _ _ _ _ _ (fun σ2 H2 ⟨q,l,s⟩=>m2 _ _ _ _ _ (fun σ3 H3 ⟨q',l',s'⟩=>⟨q',l'.trans l,fun i hi=>(s' i hi).trans (s i hi)⟩) (h2 _ _ _ _ q)) (h1 _ _ _ _ q)⟩
theorem Gi{K:Za}{k n:Nat}{t:xK}(h:BU k t):yZ k (ic K n t):=fun x σ H Q ⟨a,xs,e,hs,hl,q⟩=>⟨a,xs,e,hs,hl,h _ _ _ _ q⟩
def Hr(X:Cx)(ifs:List Expr)(t:TT):Prop :=
 ∀(J6:Zd) (s:Shared) (σ:St) (H:Hp) (Q:Bool->Hp->Prop),Inv X J6 σ H s->t σ H Q->wpAny (model X.prog X.w) X.A (An ifs X.env) (TP X J6 σ Q) X.xe s
def ju:TT:=fun _ H Q=>Q true H
theorem cQ{X:Cx}:Hr X [] ju:=fun J6 s σ H Q I h=>a_ ⟨H,I,h⟩
theorem rf{X:Cx}{c:Expr}{t:TT}(h:PT X c t):Hr X [c] t:=by
 intro J6 s σ H Q I hw;unfold An;rw[rW];simp only[if_true];refine ao (ao (cM (h J6 s σ H Q I hw) fun b s1 q=>a_ ?_));exact a_ q
def dQ(k:Nat)(fi:List Nat)(wi:TI)(g:TG)(tc:TT)(te:TE):TE:=fun σ H Q=>wi σ H fun J H1=>∀l,H1 l=none->∃W:Nat->Nat->List V->Hp->Prop,(∃m,W 0 m [] (upd H1 l (.lst [])))/\∀i m vs H2,W i m vs H2->H2 l=some (.lst vs) /\
 ((J.stop i H2/\Q (.ref l) H2)∨(J.go i H2/\∀x H3,J.yld i H2 x H3->g x (ef k fi σ) H3 fun σ2 H4=>tc σ2 H4 fun b H5 =>
  if b=true then te σ2 H5 fun v H6=>H6 l=some (.lst vs)/\vs.length<aj/\∃m',m'<m/\W (i+1) m' (vs++[v]) (upd H6 l (.lst (vs++[v])))else ∃m',m'<m/\W (i+1) m' vs H5))
section
variable{X:Cx}{J6:Zd}{σ:St}
theorem GG{k:Nat}{N:Zb}{scope:Scope}{fi:List Nat}{H:Hp}{s:Shared}{cl:List (Str×Addr)}{fp:Ze}(S:mW X.env.scope scope k N X.N fi)(I:Inv X J6 σ H s)
  (hcl:∀x c,cl.lookup x=some c->X.env.cells.lookup x=some c) (hcf:∀y∈scope.names,y.2=.free->(cl.lookup y.1).isSome=true) (hf:∀b∈fp,lr X J6 H b) (hlt:∀b∈fp,b<s.heap.objs.size) :
  (dW X N scope s.heap.objs.size cl s H fp (X.pn++J6)).Ok where
 mod:=I.ok.mod
 kind:=S.kind
 glob:=I.ok.glob
 blt:=I.ok.blt
 above:=aN _
 inj:=fun x y c e1 e2=>I.ok.inj x y c (hcl x c e1) (hcl y c e2)
 has:=fun x h=>by
  have key:∃y∈scope.names,y.1=x/\y.2=.free:=by
   have h':(relabel scope X.env).names.lookup x=some .cell∨(relabel scope X.env).names.lookup x=some .free:=h;have mem:∀(l:List (Str×gf)) (kd:gf),l.lookup x=some kd->(x,kd)∈l:=by
    intro l
    induction l with
    |nil=>intro kd e;cases e
    |cons a r ih =>
     intro kd e;obtain⟨n,k'⟩:=a;rw[g7]at e;cases hx:x==n with
     |true =>
      rw[hx]at e;have:x=n:=by simpa using hx
      subst this;cases e;exact cp
     |false=>rw[hx]at e;exact cj _ (ih kd e)
   have back:∀kd,(x,kd)∈(relabel scope X.env).names->kd=.cell∨kd=.free->∃y∈scope.names,y.1=x/\y.2=.free:=by
    intro kd hm hk;obtain⟨⟨n,k'⟩,hy,e⟩:=aO.mp hm;dsimp only at e;by_cases hc:(k'==kF && X.env.scope.kind==.function && X.env.kindOf n==some .cell)=true
    ·have hk':k'=.free:=by
      simp only[iw]at hc;simpa using hc.1.1
     rw[if_pos hc]at e;cases e;exact⟨_,hy,rfl,hk'⟩
    ·rw[if_neg hc]at e;cases e;rcases hk with rfl|rfl
     ·exact absurd rfl (S.cell _ hy)
     ·exact⟨_,hy,rfl,rfl⟩
   rcases h' with h'|h'
   ·exact back _ (mem _ _ h') (.inl rfl)
   ·exact back _ (mem _ _ h') (.inr rfl)
  obtain⟨y,hy,rfl,hk⟩:=key;exact vR.mp (hcf y hy hk)
 cab:=fun x c h=>by cases h
 hd:=I.ok.hd
 frames:=I.ok.frames
 stk:=.inl rfl
 exf:=fun b hb=>⟨cx (hlt b hb),fun x c e=>(hf b hb).2.2.2.2.1 x c (hcl x c e)⟩
 bs:=I.bs
 bsz:=bj I.ok.bsz I.sz
 noex:=fun b o e hb=>by
  rcases(hf b hb).2.2.2.1 with z|z
  ·exact I.ok.noex b o e z
  ·exact absurd (fE (aM (I.ok.bs b o e).1) z) (qe _)
 exfs:=fun b hb z=>by
  obtain⟨_,f1,f2,_⟩:=hf b hb;rcases bw.mp (I.stkSub b z)with q|q
  ·exact f1 q
  ·exact f2 q
 funs:=I.stack
 frf:=I.stkFree
theorem Fl{k:Nat}{N:Zb}{scope:Scope}{fi:List Nat}{H:Hp}{s:Shared}{cl:List (Str×Addr)}{fp:Ze}{h₁:Heap}{t':Nat}{m:Str->Option Value}(S:mW X.env.scope scope k N X.N fi)(I:Inv X J6 σ H s)
  (hcl:∀x c,cl.lookup x=some c->X.env.cells.lookup x=some c) (hcf:∀y∈scope.names,y.2=.free->(cl.lookup y.1).isSome=true) (hf:∀b∈fp,lr X J6 H b) (hlt:∀b∈fp,b<s.heap.objs.size)
  (hn:h₁.Ns s.heap.objs.size m) (old:∀b o,s.heap.get? b=some o->h₁.get? b=some o) :
  Inv (dW X N scope s.heap.objs.size cl s H fp (X.pn++J6)) [] (ef k fi σ) H { s with heap:=h₁,toks:=t' }:=by
 have memOf:∀(l:List (Str×gf)) (x:Str) (kd:gf),l.lookup x=some kd->(x,kd)∈l:=by
  intro l
  induction l with
  |nil=>intro x kd e;cases e
  |cons a r ih =>
   intro x kd e;obtain⟨n,k'⟩:=a;rw[g7]at e;cases hx:x==n with
   |true =>
    rw[hx]at e;have:x=n:=by simpa using hx
    subst this;cases e;exact cp
   |false=>rw[hx]at e;exact cj _ (ih x kd e)
 refine⟨GG S I hcl hcf hf hlt,rfl,I.bare,Un.kept old,⟨m,hn,fun i x v e1 e2 e3=>?_⟩,fun x c e=>?_,I.hok.fresh (aN _),fun x c e=>I.freeC x c (hcl x c e),fun p hp=>?_,I.hok.kept old,?_⟩
 ·obtain⟨j,t,rfl,ht,hv⟩:=tJ e2;obtain⟨y,hy,hXN,hfr⟩:=S.sl j t ht;have e1':N[k+j]?=some x:=e1;rw[hy]at e1';cases e1';have hmem:=memOf _ _ _ hfr;obtain⟨c,hc⟩:=vR.mp (hcf _ hmem rfl);have hX:=hcl _ _ hc;obtain⟨mX,hnX,hlX⟩:=I.loc;have kX:=S.fr _ hmem rfl;obtain⟨u,ru,lk⟩:=hlX t x v hXN hv (by rcases kX with z|z;exact .inr (.inl z);exact .inr (.inr z));refine⟨u,ru,.inr ⟨?_,c,hc,?_⟩⟩
  ·exact h9 hfr
  ·rcases lk with⟨z,_⟩|⟨_,c',e',q⟩
   ·have z':X.env.scope.names.lookup x=some .local:=z;rcases kX with kX|kX<;>rw[z']at kX<;>cases kX
   ·rw[hX]at e';cases e';obtain⟨o,ho,hd⟩:=q;exact⟨o,old _ o ho,hd⟩
 ·obtain⟨v,o,ho,hd⟩:=I.cell x c (hcl x c e);exact⟨v,o,old _ o ho,hd⟩
 ·rw[fD]at hp;obtain⟨e,n,ne,nf,d⟩:=I.pin p hp;refine⟨old _ _ e,n,cx (aM e),fun z=>?_,d⟩;rcases bw.mp (I.stkSub _ z)with q|q
  ·exact ne q
  ·exact nf q
 ·rw[Aw];exact S.len.symm
structure xG(X:Cx)(J6:Zd)(H:Hp)(C:Addr):Prop where
 free:H C=none
 loc:C≠X.env.locals
 young:X.s₀.heap.objs.size<=C
 cells:∀x c,X.env.cells.lookup x=some c->c≠C
 pin:∀p∈X.pn++J6,p.1≠C
theorem tI{elt iter tg:Expr}{ifs:List Expr}{scope:Scope}{pos:Pos}{k:Nat}{N:Zb}{fi:List Nat}{cl:List (Str×Addr)}{g:TG}{tc:TT}{te:TE}{it:Addr}{fp:Ze}{tn:Nat->Heap->Prop}{J:It}{H2:Hp}{s2:Shared}{Q:VK}
  {E:Zc}{RR:Value->Addr->Result->Shared->Prop}
  (S:mW X.env.scope scope k N X.N fi) (hc:X.calm=true) (hcl:∀x c,cl.lookup x=some c->X.env.cells.lookup x=some c) (hcf:∀y∈scope.names,y.2=.free->(cl.lookup y.1).isSome=true)
  (hg:∀C cl s₀ H₀ ex pn,PG (dW X N scope C cl s₀ H₀ ex pn) tg g) (ho:yZ k g) (ht:∀C cl s₀ H₀ ex pn,Hr (dW X N scope C cl s₀ H₀ ex pn) ifs tc) (he:∀C cl s₀ H₀ ex pn,PE (dW X N scope C cl s₀ H₀ ex pn) elt te)
  (I2:Inv X J6 σ H2 s2) (T:uu X.prog X.w X.K tg J fp it tn) (st2:tn 0 s2.heap) (f2:∀b∈fp,lr X J6 H2 b)
  (hw:∀l,H2 l=none->∃W:Nat->Nat->List V->Hp->Prop,(∃m,W 0 m [] (upd H2 l (.lst [])))/\∀i m vs H2,W i m vs H2->H2 l=some (.lst vs) /\
   ((J.stop i H2/\Q (.ref l) H2)∨(J.go i H2/\∀x H3,J.yld i H2 x H3->g x (ef k fi σ) H3 fun σ2 H4=>tc σ2 H4 fun b H5 =>
    if b=true then te σ2 H5 fun v H6=>H6 l=some (.lst vs)/\vs.length<aj/\∃m',m'<m/\W (i+1) m' (vs++[v]) (upd H6 l (.lst (vs++[v])))else ∃m',m'<m/\W (i+1) m' vs H5)))
  (hR:∀D C H' s' m',Inv X J6 σ H' s'->s'.heap.Ns C m'->xG X J6 H' C->Q (.ref D) H'->RR (.ref D) C (.ok .next) s') :
  wpAny (model X.prog X.w) X.A (newList []) (fun acc s₃=>wpAny (model X.prog X.w) X.A (newFunctionEnv scope X.env.globals cl [] X.env.qual none .none (some X.env)) (fun cenv s₄ =>
   zzl83 (model X.prog X.w) X.A (.compStart (.ListComp elt [⟨tg,iter,ifs,0⟩] scope pos) 0 (.ref it) acc { cenv with scope:=relabel scope X.env }) (RR acc cenv.locals) s₄) E s₃) E s2:=by
 have hfresh:H2 s2.heap.objs.size=none:=I2.fresh;obtain⟨W,⟨m0,w0⟩,turn⟩:=hw _ hfresh;refine rV (wpAny_newFunctionEnv S.cell (by intro y hy;simp at hy) (fun h₁ hns₁ hsb₁=>?_) S.kind);dsimp only at hns₁ hsb₁ ⊢;have I3:Inv X J6 σ (upd H2 s2.heap.objs.size (.lst [])) { s2 with heap:=s2.heap.push { cls:=.type "list",data:=.seq ([]:Zf).toArray },toks:=s2.toks }:=I2.lnew (ys:=[]) .nil (bR _);generalize hs3:({ s2 with heap:=s2.heap.push { cls:=.type "list",data:=.seq ([]:Zf).toArray },toks:=s2.toks }:Shared)=s3 at I3;have hh3:s3.heap=s2.heap.push { cls:=.type "list",data:=.seq ([]:Zf).toArray }:=by rw[<-hs3]
 have hsz:s3.heap.objs.size=s2.heap.objs.size+1:=by rw[hh3,kq]
 have hlt:∀b∈fp,b<s2.heap.objs.size:=fun b hb=>by
  obtain⟨o,e,_⟩:=T.obj 0 _ st2 b hb;exact aM e
 have f3:∀b∈fp,lr X J6 (upd H2 s2.heap.objs.size (.lst [])) b:=fun b hb=>⟨by rw[ai (cx (hlt b hb))];exact(f2 b hb).1,(f2 b hb).2⟩;have hlt3:∀b∈fp,b<s3.heap.objs.size:=fun b hb=>by rw[hsz];exact Nat.lt_succ_of_lt (hlt b hb)
 have old:∀b o,s3.heap.get? b=some o->h₁.get? b=some o:=fun b o e=>by
  have hb:b≠s3.heap.objs.size:=cx (aM e);rw[hh3]at e hb;exact hsb₁.extBut b o hb (bb _ e)
 have hns:h₁.Ns s3.heap.objs.size (fun x=>([]:List (Str×Value)).reverse.lookup x):=by rw[hh3];exact hns₁
 have I4:Inv (dW X N scope s3.heap.objs.size cl s3 (upd H2 s2.heap.objs.size (.lst [])) fp (X.pn++J6)) [] (ef k fi σ) (upd H2 s2.heap.objs.size (.lst [])) { s3 with heap:=h₁,toks:=s2.toks+([]:List (Str×Value)).length } :=
  Fl S I3 hcl hcf f3 hlt3 hns old
 have st4:tn 0 h₁:=T.keep _ _ _ st2 fun b hb o e=>old b o (by rw[hh3];exact bb _ e);generalize hY:dW X N scope s3.heap.objs.size cl s3 (upd H2 s2.heap.objs.size (.lst [])) fp (X.pn++J6)=Y at I4;have yp:Y.prog=X.prog:=by rw[<-hY];rfl
 have yw:Y.w=X.w:=by rw[<-hY];rfl
 have yK:Y.K=X.K:=by rw[<-hY];rfl
 have yA:Y.A=X.A:=by rw[<-hY];rfl
 have yx:Y.xe=XF:=by rw[<-hY];rfl
 have yc:Y.calm=true:=by rw[<-hY];exact hc
 have gY:PG Y tg g:=by rw[<-hY];exact hg _ _ _ _ _ _
 have tY:Hr Y ifs tc:=by rw[<-hY];exact ht _ _ _ _ _ _
 have eY:PE Y elt te:=by rw[<-hY];exact he _ _ _ _ _ _
 have yenv:Y.env=compEnvC scope cl s3.heap.objs.size X.env:=by rw[<-hY];rfl
 have fY:∀{H':Hp},(∀b∈fp,H' b=none)->∀b∈fp,lr Y [] H' b:=fun hn b hb=>by
  obtain⟨f0,f1,f2',f3',f4,f5⟩:=f3 b hb;rw[<-hY];refine⟨hn b hb,cx (hlt3 b hb),fun z=>?_,.inl hb,fun x c e=>f4 x c (hcl x c e),fun p hp=>?_⟩
  ·rcases bw.mp (I3.stkSub _ z)with q|q
   ·exact f1 q
   ·exact f2' q
  ·rw[fD]at hp;exact f5 p hp
 have loop:∀s4:Shared,s4={ s3 with heap:=h₁,toks:=s2.toks+([]:List (Str×Value)).length } ->
   zzl83 (model X.prog X.w) X.A (.compLoop (.ListComp elt [⟨tg,iter,ifs,0⟩] scope pos) 0 (.ref it) (.ref s2.heap.objs.size) Y.env) (RR (.ref s2.heap.objs.size) s3.heap.objs.size) s4:=by
  rintro s4 rfl;refine xi (fun n s'=>∃i vs H',Inv Y [] (ef k fi σ) H' s'/\tn i s'.heap/\(∀b∈fp,H' b=none)/\W i n vs H') ?_ m0 ⟨0,[],_,I4,st4,fun b hb=>(f3 b hb).1,w0⟩;rintro n s5 ⟨i,vs,H5,I5,st5,fr5,w5⟩;obtain⟨hl5,hcase⟩:=turn i n vs H5 w5;rcases hcase with⟨stop,q⟩|⟨go,step⟩
  ·have d:=T.done Y yp yw yK yc i [] s5 _ H5 XF I5 (fY fr5) st5 stop;rw[yA]at d;refine cM d fun r s6 ⟨hr,I6⟩=>?_;subst hr;have hu:Un (mi X.stack) fp (upd H2 s2.heap.objs.size (.lst [])) H5 s3.heap s6.heap:=by have:=I6.base;rw[<-hY]at this;exact this
   have ho6:s6.os=s3.os:=by have:=I6.os;rw[<-hY]at this;exact this
   have hok6:ki X.prog X.w X.K H5 s6.heap:=by have:=I6.hok;rw[<-hY]at this;exact this
   have hC6:H5 s3.heap.objs.size=none:=by have:=I6.free;rw[<-hY]at this;exact this
   obtain⟨m6,hn6,_⟩:=I6.loc;have hn6':s6.heap.Ns s3.heap.objs.size m6:=by rw[<-hY]at hn6;exact hn6
   have IX:Inv X J6 σ H5 s6:=I3.call' ho6 hu hok6 I6.bare fun b hb=>by
    obtain⟨f0,f1,f2',f3',f4,f5⟩:=f3 b hb;exact⟨f3',f1,f4,f5⟩
   refine hR _ _ H5 s6 m6 IX hn6' ⟨hC6,eK I3.lt,I3.sz,fun x c e z=>?_,fun p hp z=>?_⟩ q
   ·obtain⟨v,o,ho,_⟩:=I3.cell x c e;exact absurd (aM ho) (by rw[z];exact qe _)
   ·exact absurd (aM (I3.pin p hp).1) (by rw[z];exact qe _)
  ·have d:=T.item Y yp yw yK yc i [] s5 _ H5 XF I5 (fY fr5) st5 go;rw[yA]at d;refine cM d fun r s6 ⟨u,hr,h6⟩=>?_;subst hr;refine cM h6 fun _ s7 ⟨x,H7,I7,r7,y7,st7,fr7⟩=>?_;have I7':=I7.pinned (fY fr7) (T.obj _ _ st7);have a7:=gY _ s7 _ H7 x u _ I7' r7 (ho _ _ _ _ (step x H7 y7));rw[yp,yw,yA,yx]at a7;refine cM a7 fun _ s8 ⟨σ8,H8,I8,q8,l8,k8⟩=>?_;have a8:=tY _ s8 σ8 H8 _ I8 q8;rw[yp,yw,yA,yx]at a8;have again:∀{H9:Hp}{s9:Shared}{vs':List V}{m':Nat},Inv Y ([]++pj fp s7.heap) σ8 H9 s9->m'<n->W (i+1) m' vs' H9->∃m,m<n/\∃i vs H',Inv Y [] (ef k fi σ) H' s9/\tn i s9.heap/\(∀b∈fp,H' b=none)/\W i m vs H':=fun{H9 s9 vs' m'} I9 hm w9=>by
    refine⟨m',hm,i+1,vs',H9,(I9.unpinned).weak l8.symm (fun j v e=>?_),T.keep _ _ _ st7 fun b hb o e=>(I9.pin (b,o) (dw _ (dw _ (gp hb e)))).1,fun b hb=>?_,w9⟩
    ·obtain⟨j',t,rfl,_,_⟩:=tJ e;rw[k8 _ (Nat.le_add_right _ _)];exact e
    ·obtain⟨o,e,_⟩:=T.obj _ _ st7 b hb;exact(I9.pin (b,o) (dw _ (dw _ (gp hb e)))).2.1
   refine cM a8 fun b s9 ⟨H9,I9,q9⟩=>?_;cases b with
   |false =>
    rw[if_neg jr]at q9 ⊢;obtain⟨m',hm,w9⟩:=q9;exact again I9 hm w9
   |true =>
    rw[if_pos rfl]at q9 ⊢;have a9:=eY _ s9 σ8 H9 _ I9 q9;rw[yp,yw,yA,yx]at a9;refine cM a9 fun y s10 ⟨v,H10,I10,r10,hl10,hsz10,m',hm,w10⟩=>?_;have a10:=dI (X:=Y) _ s10 σ8 H10 (.ref s2.heap.objs.size) [v] (.ref s2.heap.objs.size) [y] (fun z H'=>z=.non/\H'=upd H10 s2.heap.objs.size (.lst (vs++[v]))) I10 rfl (.cons r10 .nil) ⟨_,vs,v,rfl,rfl,hl10,hsz10,rfl,rfl⟩;rw[yp,yw,yA,yx]at a10;refine cM a10 fun _ s11 ⟨_,H11,I11,_,_,e11⟩=>?_;subst e11;exact again I11 hm w10
 have hstart:=codeAny_compStart_list (prog:=X.prog) (w:=X.w) (A:=X.A) (elt:=elt) (target:=tg) (iter:=iter) (ifs:=ifs) (rest:=[]) (scope:=scope) (pos:=pos) (it:=.ref it) (acc:=.ref s2.heap.objs.size) (env:=Y.env) (loop _ rfl) (T.self _ 0 _ _ _ st4 (loop _ rfl));rw[yenv]at hstart;rw[<-hs3]at hstart;exact hstart
end
section
variable{X:Cx}
theorem xG.turned{J6:Zd}{σ:St}{H:Hp}{s:Shared}{C:Addr}{h':Heap}(c:xG X J6 H C)(I:Inv X J6 σ H s)(hs:js C s.heap h'):Inv X J6 σ H { s with heap:=h' } :=
 I.turned (t':=s.toks) (fun b o hb e=>hs.extBut b o hb e) c.free c.loc (.inr c.young) c.cells c.pin
theorem Gh{elt iter tg:Expr}{ifs:List Expr}{scope:Scope}{pos:Pos}{k:Nat}{N:Zb}{fi:List Nat}{wi:TI}{g:TG}{tc:TT}{te:TE}(hS:lV X.env.scope scope k N X.N fi=true)(hc:X.calm=true)(hi:PI X tg iter wi)
  (hg:∀C cl s₀ H₀ ex pn,PG (dW X N scope C cl s₀ H₀ ex pn) tg g) (ho:yZ k g) (ht:∀C cl s₀ H₀ ex pn,Hr (dW X N scope C cl s₀ H₀ ex pn) ifs tc) (he:∀C cl s₀ H₀ ex pn,PE (dW X N scope C cl s₀ H₀ ex pn) elt te)
  (hs:∀x,uE iter X.env x=pure x:=by intro _;rfl):PE X (.ListComp elt [⟨tg,iter,ifs,0⟩] scope pos) (dQ k fi wi g tc te):=by
 intro J6 s σ H Q I h;have S:=mW.of hS;obtain⟨cl,hclos,hcl,hcf⟩:=tL (env:=X.env) (scope:=scope) fun y hy e=>I.ok.has y.1 (S.fr y hy e);rw[eval_ListComp];refine wpAny_comprehension_free (use:=none) rfl hs hclos S.kind S.nm (cM (hi J6 s σ H _ I h) fun v s1 h1=>cM h1 fun itv s2 h2=>?_);obtain⟨it,fp,tn,J,H2,e,I2,T,st2,f2,hw⟩:=h2;subst e;refine tI (RR:=fun acc C=>compPost (model X.prog X.w) X.A X.xe none (EP X J6 σ Q) acc C) S hc hcl hcf hg ho ht he I2 T st2 f2 hw ?_;intro D C H' s' m' I' hn ce q;exact⟨m',hn,fun h' hs'=>⟨.ref D,H',ce.turned I' hs',rfl,q⟩⟩
theorem z6{elt iter tg:Expr}{ifs:List Expr}{scope:Scope}{pos spos py:Pos}{k:Nat}{N:Zb}{fi:List Nat}{wi:TI}{g:TG}{tc:TT}{te:TE}{j:Nat}{y:Str}(hN:X.N.Nodup)(hj:X.N[j]?=some y)(hy:Loc X.env.scope y)(hS:lV X.env.scope scope k N X.N fi=true)(hc:X.calm=true)(hi:PI X tg iter wi)
  (hg:∀C cl s₀ H₀ ex pn,PG (dW X N scope C cl s₀ H₀ ex pn) tg g) (ho:yZ k g) (ht:∀C cl s₀ H₀ ex pn,Hr (dW X N scope C cl s₀ H₀ ex pn) ifs tc) (he:∀C cl s₀ H₀ ex pn,PE (dW X N scope C cl s₀ H₀ ex pn) elt te)
  (hsw:l_ (.ListComp elt [⟨tg,iter,ifs,0⟩] scope pos) (some (.Name y py)) spos.line X.env=pure true:=by rfl)
  (hs:∀x,uE iter X.env x=pure x:=by intro _;rfl) (hf:X.fn y=true∨X.env.scope.names.lookup y=some .local:=by first|exact .inl rfl|exact .inr rfl|assumption) :
  PS X (.Assign [.Name y py] (.ListComp elt [⟨tg,iter,ifs,0⟩] scope pos) spos) (aV (dQ k fi wi g tc te) (d4 j)):=by
 intro J6 s σ H D I h;have S:=mW.of hS;obtain⟨cl,hclos,hcl,hcf⟩:=tL (env:=X.env) (scope:=scope) fun y hy e=>I.ok.has y.1 (S.fr y hy e);rw[exec_Assign_Name_used _ _ _ _ hsw];refine ao (p_ (ao ?_));show wpAny _ X.A (do let _ <- comprehension (.ListComp elt [⟨tg,iter,ifs,0⟩] scope pos) scope X.env _ (newList []) false (eval iter X.env) (some (assign (.Name y py) X.env))) _ _ s
 refine ao (bU (wpAny_comprehension_free (use:=some (assign (.Name y py) X.env)) (Q:=fun _ s'=>SP X J6 D .next s') rfl hs hclos S.kind S.nm
  (cM (hi J6 s σ H _ I h) fun v s1 h1=>cM h1 fun itv s2 h2=>?_)) (fun _ s' hq=>a_ (a_ hq)) fun _ _ e=>e)
 obtain⟨it,fp,tn,J,H2,e,I2,T,st2,f2,hw⟩:=h2;subst e;refine tI (RR:=fun acc C=>compPost (model X.prog X.w) X.A X.xe (some (assign (.Name y py) X.env)) (fun _ s'=>SP X J6 D .next s') acc C) (Q:=fun x H1=>d4 j x σ H1 D.nx) S hc hcl hcf hg ho ht he I2 T st2 f2 hw ?_;intro A C H' s' m' I' hn ce q;show wpAny _ X.A (assign (.Name y py) X.env (.ref A)) _ _ _;refine wpAny_assign_Name (uN I' hN hj hy (v:=.ref A) rfl (fun s'' I'' hsb=>?_) hf);obtain⟨a,hsa,ha⟩:=hsb;have hCa:C≠a:=by
  rcases ha with z|z
  ·rw[z];exact ce.loc
  ·exact cW (ce.cells y a z)
 refine⟨m',hn.sameBut hsa hCa,fun h' hs'=>?_⟩;exact⟨_,H',ce.turned I'' hs',q⟩
end
theorem Inv.turnedNew{X:Cx}{J6:Zd}{σ:St}{H:Hp}{s:Shared}{h2:Heap}{t':Nat}{ch:Ze}{o:HO}(I:Inv X J6 σ H s)(hf:∀b∈ch,lr X J6 H b)
  (k:∀b q,b∉ch->s.heap.get? b=some q->h2.get? b=some q) (hq:∃q,h2.get? s.heap.objs.size=some q) (hno:∀y,o≠.own y) (new:cL X.prog X.w X.K (upd H s.heap.objs.size o) h2 s.heap.objs.size o) :
  Inv X J6 σ (upd H s.heap.objs.size o) { s with heap:=h2,toks:=t' }:=by
 have hn0:H s.heap.objs.size=none:=I.fresh;have nsz:∀b q,s.heap.get? b=some q->b≠s.heap.objs.size:=fun b q e=>cx (aM e);have tr:∀b u,H b=some u->b∉ch:=fun b u e z=>by rw[(hf b z).1]at e;cases e
 refine I.step (g':=s.gens) (d':=s.drawn) (ch:=ch) (fun b hb=>?_) (fun b q _ _ hc e _=>k b q hc e) (fun b q _ _ hc e _=>⟨q.slots,k b q hc e⟩) (fun b q _ e n=>by rw[ai (nsz b q e)];exact n) (fun b q hc e=>⟨q,k b q hc e⟩)
  (fun b xs e=>by rw[ai (ah e hn0)];exact e) (fun b q u e=>by rw[ai (ah e hn0)];exact e) (fun b ps e=>⟨#[],by rw[ai (ah e hn0),e];simp⟩) (fun m hm=>?_) (fun b u e=>?_) I.bare
 ·obtain⟨f0,f1,f2,f3,f4,f5⟩:=hf b hb;exact⟨f3,f1,f4,f5⟩
 ·obtain⟨q,es,ep,ho,r⟩:=hm;exact⟨q,es,ep,k _ q (fun z=>(hf _ z).2.1 rfl) ho,r⟩
 ·by_cases hb:b=s.heap.objs.size
  ·subst hb;rw[aa]at e;cases e;exact new
  ·rw[ai hb]at e;refine(I.hok b u e).stay (fun c v hc q=>k c v ?_ q) (fun c q=>by rw[ai (ah q hn0)];exact q) fun c xs q=>by rw[ai (ah q hn0)];exact q
   rcases hc with z|z
   ·subst z;exact tr _ _ e
   ·exact tr _ _ z
def JM(K:Za)(a:Addr):It :=
 ⟨fun i H=>∃xs x,aA K H a xs/\xs[i]?=some x,fun i H x H'=>∃p v,x=.ref p/\H p=none/\(∀xs,aA K H a xs->xs[i]?=some v)/\H'=upd H p (.tup [.int i,v]),fun i H=>∃xs,aA K H a xs/\xs.length<=i⟩
theorem B5{P:bB}{w:World}{K:Za}{es:List Expr}{kx:Nat}{U1:Pos}(a e it:Addr)(hne:e≠it):
  uu P w K (.Tuple es kx U1) (JM K a) [e,it] e (fun i h=>(∃old,IsEnum h e it i old)/\h.IsListIter it a i) where
 mem:=by simp
 obj:=fun i h st b hb=>by
  obtain⟨⟨old,he⟩,o,ho,hc,hd⟩:=st;rcases bw.mp hb with z|z
  ·subst z;exact⟨_,he,fun v z=>by cases z⟩
  ·have z':b=it:=by simpa using z
   subst z';exact⟨o,ho,fun v z=>by rw[hd]at z;cases z⟩
 keep:=fun i h h' st k=>⟨let⟨old,he⟩:=st.1;⟨old,k e (by simp) _ he⟩,st.2.at fun o e=>k it (by simp) o e⟩
 item:=by
  intro X hP hw hK hc i J6 s σ H E I hf st hg;subst hP hw hK;obtain⟨⟨old,he⟩,hit⟩:=st;obtain⟨xs,x,hq,hx⟩:=hg;obtain⟨its,rv,p,hz⟩:=I.list hq;obtain⟨u,hu,ru⟩:=rv.get hx;obtain⟨e0,e1,e2,e3,e4,e5⟩:=hf e (by simp);obtain⟨f0,f1,f2,f3,f4,f5⟩:=hf it (by simp);refine wpAny_pyNext_enum_item he hit p.isList (x:=u) (by simpa using hu) hne fun h' ho' hit' ht' hsz' hk'=>?_;refine⟨_,rfl,wpAny_letOwnedTupleGo_enum (s:={ s with heap:=h',toks:=s.toks+1 }) ho' fun h2 he2 hs2=>?_⟩;have hs2':js e h' h2:=hs2;have hpe:s.heap.objs.size≠e:=eK (aM he);have ht2:h2.get? s.heap.objs.size=some { cls:=.type "tuple",data:=.seq #[.int i s.toks,u] }:=hs2'.extBut _ _ hpe ht';have hn0:H s.heap.objs.size=none:=I.fresh;have hue:upd H s.heap.objs.size (.tup [.int i,x]) e=none:=by rw[ai (cW hpe)];exact e0
  have hpi:s.heap.objs.size≠it:=by
   obtain⟨o,ho,_⟩:=hit;exact eK (aM ho)
  have hui:upd H s.heap.objs.size (.tup [.int i,x]) it=none:=by rw[ai (cW hpi)];exact f0
  have I2:Inv X J6 σ (upd H s.heap.objs.size (.tup [.int i,x])) { s with heap:=h2,toks:=s.toks+1 }:=by
   refine I.turnedNew (ch:=[e,it]) hf (fun b o hb q=>?_) ⟨_,ht2⟩ (fun _ z=>nomatch z) ⟨by show 2<=aj;decide,[.int i s.toks,u],.cons ⟨_,rfl⟩ (.cons ru .nil),⟨_,ht2,rfl,_,rfl⟩⟩;have nb1:b≠e:=fun z=>hb (by simp[z]);have nb2:b≠it:=fun z=>hb (by simp[z]);exact hs2'.extBut _ _ nb1 (hk' b o nb1 nb2 q)
  refine⟨.ref s.heap.objs.size,_,I2,rfl,⟨_,x,rfl,hn0,fun ys hy=>by rw[I.list_inj hy hq];exact hx,rfl⟩,⟨⟨u,by simpa using he2⟩,hit'.at fun o y=>(hs2'.2 it (cW hne)).trans y⟩,fun b hb=>?_⟩;rcases bw.mp hb with z|z
  ·subst z;exact hue
  ·have z':b=it:=by simpa using z
   subst z';exact hui
 done:=by
  intro X hP hw hK hc i J6 s σ H E I hf st hg;subst hP hw hK;obtain⟨⟨old,he⟩,hit⟩:=st;obtain⟨xs,hq,hx⟩:=hg;obtain⟨its,rv,p,hz⟩:=I.list hq;obtain⟨f0,f1,f2,f3,f4,f5⟩:=hf it (by simp);have hl:=rv.length;exact wpAny_pyNext_enum_end (I.ok.hd hc) he hit p.isList (by simp;omega) fun h' eb=>⟨rfl,I.turned (t':=s.toks) (fun b o hb e=>eb b o hb e) f0 f1 f3 f4 f5⟩
 self:=fun _ _ _ _ _ st h=>let⟨_,he⟩:=st.1;wpAny_pyIter_enum he h
section
variable{X:Cx}{p pos:Pos}{es:List Expr}{kx:Nat}{U1:Pos}
def lh(K:Za)(ta:TA):TI:=fun σ H R=>ta σ H fun vs H1=>∃a,vs=[.ref a]/\(∃xs,aA K H1 a xs)/\R (JM K a) H1
theorem gE{a:Expr}{ta:TA}(hg:Gl X "enumerate")(hm:X.mg "enumerate"=none)(ha:PA X [a] ta)(hs:aB [a] X.env=[(false,eval a X.env)]:=by rfl):PI X (.Tuple es kx U1) (.Call (.Name "enumerate" p) [a] [] pos) (lh X.K ta):=by
 intro J6 s σ H R I h;refine Call_ (pG I hg hm boot_enumerate (AQ (cM (ha pos J6 s σ H _ I h) fun us s1 ⟨vs,H1,I1,r1,q1⟩=>?_) hs rfl));obtain⟨l,e,⟨xs,hq⟩,q⟩:=q1;subst e;obtain⟨u,rfl,ru⟩:=vals1 r1;cases ru;obtain⟨its,rv,pl,hz⟩:=I1.list hq;refine call_enumerate_list pl.isList fun h' he hit hsz hk=>?_;refine wpAny_pyIter_enum (s:={ s1 with heap:=h' }) he ?_;have hk':∀b o,s1.heap.get? b=some o->h'.get? b=some o:=hk;have I2:Inv X J6 σ H1 { s1 with heap:=h' }:=I1.kept (t':=s1.toks) hk';refine⟨_,[s1.heap.objs.size+1,s1.heap.objs.size],_,_,H1,rfl,I2,B5 l _ _ (Nat.succ_ne_self _),⟨⟨_,he⟩,hit⟩,fun b hb=>?_,q⟩;have hb':s1.heap.objs.size<=b:=by
  rcases bw.mp hb with z|z
  ·rw[z];exact kD _
  ·have z':b=s1.heap.objs.size:=by simpa using z
   rw[z'];exact aN _
 exact I1.fpOk hb' (I1.hok.fresh hb')
end
def Kb(x:Str):It:=⟨fun i _=>i<x.cps.size,fun i H y H'=>H'=H/\∃c,x.cps[i]?=some c/\y=.str ⟨#[c]⟩,fun i _=>x.cps.size<=i⟩
theorem zm{P:bB}{w:World}{K:Za}{tg:Expr}(x:Str)(t:Tok)(it:Addr):uu P w K tg (Kb x) [it] it (fun i h=>h.IsStrIter it "str_ascii_iterator" x t i) where
 mem:=by simp
 obj:=fun i h st b hb=>by
  have e:b=it:=by simpa using hb
  subst e;obtain⟨o,e,c,d⟩:=st;exact⟨o,e,fun v z=>by rw[d]at z;cases z⟩
 keep:=fun i h h' st k=>by
  obtain⟨o,e,c,d⟩:=st;exact⟨o,k it (by simp) o e,c,d⟩
 item:=by
  intro X hP hw hK hc i J6 s σ H E I hf st hg;subst hP hw hK;have hlt:i<x.cps.size:=hg;obtain⟨f0,f1,f2,f3,f4,f5⟩:=hf it (by simp);have hx:x.cps[i]?=some x.cps[i]:=by simp[hlt]
  refine wpAny_pyNext_ascii_item st hx fun h' st' sb=>?_;have I1:Inv X J6 σ H { s with heap:=h',toks:=s.toks+1 }:=I.turned (t':=s.toks+1) (fun b o hb e=>(sb.2 b hb).trans e) f0 f1 f3 f4 f5;obtain⟨o,e,c,d⟩:=id st';exact⟨_,rfl,yG (s:={ s with heap:=h',toks:=s.toks+1 }) e c d (by decide) ⟨.str ⟨#[x.cps[i]]⟩,H,I1,⟨_,rfl⟩,⟨rfl,_,hx,rfl⟩,st',fun b hb=>(hf b hb).1⟩⟩
 done:=by
  intro X hP hw hK hc i J6 s σ H E I hf st hg;subst hP hw hK;have hge:x.cps.size<=i:=hg;obtain⟨f0,f1,f2,f3,f4,f5⟩:=hf it (by simp);exact wpAny_pyNext_ascii_end (I.ok.hd hc) st (by simp;omega) fun h' eb=>⟨rfl,I.turned (t':=s.toks) (fun b o hb e=>eb b o hb e) f0 f1 f3 f4 f5⟩
 self:=fun _ _ _ _ _ st h=>wpAny_pyIter_striter_ascii st h
theorem B4{P:bB}{w:World}{K:Za}{tg:Expr}(x:Str)(t:Tok)(it:Addr):uu P w K tg (Kb x) [it] it (fun i h=>h.IsStrIter it "str_iterator" x t i) where
 mem:=by simp
 obj:=fun i h st b hb=>by
  have e:b=it:=by simpa using hb
  subst e;obtain⟨o,e,c,d⟩:=st;exact⟨o,e,fun v z=>by rw[d]at z;cases z⟩
 keep:=fun i h h' st k=>by
  obtain⟨o,e,c,d⟩:=st;exact⟨o,k it (by simp) o e,c,d⟩
 item:=by
  intro X hP hw hK hc i J6 s σ H E I hf st hg;subst hP hw hK;have hlt:i<x.cps.size:=hg;obtain⟨f0,f1,f2,f3,f4,f5⟩:=hf it (by simp);have hx:x.cps[i]?=some x.cps[i]:=by simp[hlt]
  refine wpAny_pyNext_wide_item st hx fun h' st' sb=>?_;have I1:Inv X J6 σ H { s with heap:=h',toks:=s.toks+1 }:=I.turned (t':=s.toks+1) (fun b o hb e=>(sb.2 b hb).trans e) f0 f1 f3 f4 f5;obtain⟨o,e,c,d⟩:=id st';exact⟨_,rfl,yG (s:={ s with heap:=h',toks:=s.toks+1 }) e c d (by decide) ⟨.str ⟨#[x.cps[i]]⟩,H,I1,⟨_,rfl⟩,⟨rfl,_,hx,rfl⟩,st',fun b hb=>(hf b hb).1⟩⟩
 done:=by
  intro X hP hw hK hc i J6 s σ H E I hf st hg;subst hP hw hK;have hge:x.cps.size<=i:=hg;obtain⟨f0,f1,f2,f3,f4,f5⟩:=hf it (by simp);exact wpAny_pyNext_wide_end (I.ok.hd hc) st (by simp;omega) fun h' eb=>⟨rfl,I.turned (t':=s.toks) (fun b o hb e=>eb b o hb e) f0 f1 f3 f4 f5⟩
 self:=fun _ _ _ _ _ st h=>wpAny_pyIter_striter_wide st h
section
variable{X:Cx}{p pos:Pos}{tg:Expr}
def Ir(tl:TE):TI:=fun σ H R=>tl σ H fun v H1=>∃x,v=.str x/\R (Kb x) H1
theorem Ec{l:Expr}{tl:TE}(hl:PE X l tl):PI X tg l (Ir tl):=by
 intro J6 s σ H R I h;refine cM (hl J6 s σ H _ I h) fun v s1 ⟨y,H1,I1,r1,q1⟩=>?_;obtain⟨x,e,q⟩:=q1;subst e;obtain⟨t,rfl⟩:=r1;have fin:∀b∈[s1.heap.objs.size],lr X J6 H1 b:=fun b hb=>by
  have e:b=s1.heap.objs.size:=by simpa using hb
  subst e;exact I1.fpOk (aN _) (I1.hok.fresh (aN _))
 cases ha:x.cps.all (·<128)
 ·refine wpAny_pyIter_wide ha ?_;exact⟨s1.heap.objs.size,[s1.heap.objs.size],_,_,H1,rfl,I1.kept (t':=s1.toks) fun b o e=>bb _ e,B4 x t _,⟨_,dz _ rfl,rfl,rfl⟩,fin,q⟩
 ·refine wpAny_pyIter_ascii ha ?_;exact⟨s1.heap.objs.size,[s1.heap.objs.size],_,_,H1,rfl,I1.kept (t':=s1.toks) fun b o e=>bb _ e,zm x t _,⟨_,dz _ rfl,rfl,rfl⟩,fin,q⟩
end
def Itz(K:Za)(a b:Addr):It :=
  ⟨fun i H=>∃xs ys x y,aA K H a xs/\aA K H b ys/\xs[i]?=some x/\ys[i]?=some y,
   fun i H x H'=>∃p u v,x=.ref p/\H p=none/\(∀xs,aA K H a xs->xs[i]?=some u)/\(∀ys,aA K H b ys->ys[i]?=some v)/\H'=upd H p (.tup [u,v]),
   fun i H=>∃xs ys,aA K H a xs/\aA K H b ys/\(xs.length<=i∨ys.length<=i)⟩
theorem Dm{P:bB}{w:World}{K:Za}{es:List Expr}{kx:Nat}{U1:Pos}(a b z TI TO i1 i2:Addr)(D:oG z TI TO i1 i2 a b):
  uu P w K (.Tuple es kx U1) (Itz K a b) [z,TI,TO,i1,i2] z (fun i h=>IsZip h z TI TO .none/\IsPair h TI (.ref i1) (.ref i2)/\(∃a b,IsPair h TO a b)/\h.IsListIter i1 a i/\h.IsListIter i2 b i) where
 mem:=by simp
 obj:=fun i h st c hc=>by
  obtain⟨hz,hTI,⟨u,v,hTO⟩,h1,h2⟩:=st;simp only[bw,jh,or_false]at hc;rcases hc with rfl|rfl|rfl|rfl|rfl
  ·exact⟨_,hz,fun v z=>by cases z⟩
  ·exact⟨_,hTI,fun v z=>by cases z⟩
  ·exact⟨_,hTO,fun v z=>by cases z⟩
  ·obtain⟨o,e,c,d⟩:=h1;exact⟨o,e,fun v z=>by rw[d]at z;cases z⟩
  ·obtain⟨o,e,c,d⟩:=h2;exact⟨o,e,fun v z=>by rw[d]at z;cases z⟩
 keep:=fun i h h' st k=>by
  obtain⟨hz,hTI,⟨u,v,hTO⟩,h1,h2⟩:=st;exact⟨k z (by simp) _ hz,k TI (by simp) _ hTI,⟨u,v,k TO (by simp) _ hTO⟩,h1.at fun o e=>k i1 (by simp) o e,h2.at fun o e=>k i2 (by simp) o e⟩
 item:=by
  intro X hP hw hK hc i J6 s σ H E I hf st hg;subst hP hw hK;obtain⟨hz,hTI,⟨u0,v0,hTO⟩,h1,h2⟩:=st;obtain⟨xs,ys,x,y,hqx,hqy,hx,hy⟩:=hg;obtain⟨its,rx,px,zx⟩:=I.list hqx;obtain⟨jts,ry,py,zy⟩:=I.list hqy;obtain⟨u,hu,ru⟩:=rx.get hx;obtain⟨v,hv,rv⟩:=ry.get hy;refine wpAny_pyNext_zip_item D hz hTI hTO h1 h2 px.isList py.isList (x:=u) (y:=v) (by simpa using hu) (by simpa using hv) fun h' a1 a2 a3 a4 a5 a6 hk=>?_;refine⟨_,rfl,wpAny_letOwnedTupleGo_zip (s:={ s with heap:=h' }) a1 fun h2' hz2 hs2=>?_⟩;have hs2':js z h' h2':=hs2;have nsz:s.heap.objs.size≠z:=eK (aM hz);have nsTO:s.heap.objs.size≠TO:=eK (aM hTO);have nsTI:s.heap.objs.size≠TI:=eK (aM hTI);have nsi1:s.heap.objs.size≠i1:=by obtain⟨o,ho,_⟩:=h1;exact eK (aM ho)
  have nsi2:s.heap.objs.size≠i2:=by obtain⟨o,ho,_⟩:=h2;exact eK (aM ho)
  have ht2:IsPair h2' s.heap.objs.size u v:=hs2'.extBut _ _ nsz a5;have I2:Inv X J6 σ (upd H s.heap.objs.size (.tup [x,y])) { s with heap:=h2',toks:=s.toks }:=by
   refine I.turnedNew (ch:=[z,TI,TO,i1,i2]) hf (fun c o hc q=>?_) ⟨_,ht2⟩ (fun _ z=>nomatch z) ⟨by show 2<=aj;decide,[u,v],.cons ru (.cons rv .nil),⟨_,ht2,rfl,_,rfl⟩⟩;have n1:c≠z:=fun q=>hc (by simp[q]);exact hs2'.extBut _ _ n1 (hk c o n1 (fun q=>hc (by simp[q])) (fun q=>hc (by simp[q])) (fun q=>hc (by simp[q])) q)
  refine⟨.ref s.heap.objs.size,_,I2,rfl,⟨_,x,y,rfl,I.fresh,fun zs hz=>by rw[I.list_inj hz hqx];exact hx,fun zs hz=>by rw[I.list_inj hz hqy];exact hy,rfl⟩,⟨hz2,hs2'.extBut _ _ D.TIz (hk _ _ D.TIz D.TITO D.TIi1 D.TIi2 hTI),⟨_,_,hs2'.extBut _ _ D.TOz a2⟩,a3.at fun o e=>hs2'.extBut _ _ D.i1z e,a4.at fun o e=>hs2'.extBut _ _ D.i2z e⟩,fun c hc=>?_⟩;have hcn:=(hf c hc).1;simp only[bw,jh,or_false]at hc;have ne:c≠s.heap.objs.size:=by
   rcases hc with rfl|rfl|rfl|rfl|rfl
   ·exact nsz.symm
   ·exact nsTI.symm
   ·exact nsTO.symm
   ·exact nsi1.symm
   ·exact nsi2.symm
  rw[ai ne];exact hcn
 done:=by
  intro X hP hw hK hc i J6 s σ H E I hf st hg;subst hP hw hK;obtain⟨hz,hTI,⟨u0,v0,hTO⟩,h1,h2⟩:=st;obtain⟨xs,ys,hqx,hqy,hend⟩:=hg;obtain⟨its,rx,px,zx⟩:=I.list hqx;obtain⟨jts,ry,py,zy⟩:=I.list hqy;have lx:=rx.length;have ly:=ry.length;refine wpAny_pyNext_zip_end (I.ok.hd hc) D hz hTI hTO h1 h2 px.isList py.isList (by rcases hend with q|q;exact .inl (by simp;omega);exact .inr (by simp;omega)) fun h' hk=>⟨rfl,?_⟩;have tr:∀c q,H c=some q->c∉[z,TI,TO,i1,i2]:=fun c q e m=>by rw[(hf c m).1]at e;cases e
  have kk:∀c o,c∉[z,TI,TO,i1,i2]->s.heap.get? c=some o->h'.get? c=some o:=fun c o hc q=>hk c o (fun q=>hc (by simp[q])) (fun q=>hc (by simp[q])) (fun q=>hc (by simp[q])) (fun q=>hc (by simp[q])) q;refine I.step (g':=s.gens) (d':=s.drawn) (t':=s.toks) (ch:=[z,TI,TO,i1,i2]) (fun c hc=>?_) (fun c o _ _ hc e _=>kk c o hc e) (fun c o _ _ hc e _=>⟨o.slots,kk c o hc e⟩) (fun _ _ _ _ n=>n) (fun c o hc e=>⟨o,kk c o hc e⟩) (fun _ _ e=>e) (fun _ _ _ e=>e) (fun c ps e=>⟨#[],by rw[e];simp⟩) (fun m hm=>?_) (fun c q e=>?_) I.bare
  ·obtain⟨f0,f1,f2,f3,f4,f5⟩:=hf c hc;exact⟨f3,f1,f4,f5⟩
  ·obtain⟨q,es',ep,ho,r⟩:=hm;exact⟨q,es',ep,kk _ q (fun z=>(hf _ z).2.1 rfl) ho,r⟩
  ·refine(I.hok c q e).stay (fun d v hd q'=>kk d v ?_ q') (fun _ q=>q) fun _ _ q=>q;rcases hd with z|z
   ·subst z;exact tr _ _ e
   ·exact tr _ _ z
 self:=fun _ _ _ _ _ st h=>vJ st.1 h
section
variable{prog:bB}{w:World}{A:Around}{E:Zc}{s:Shared}
theorem jV{it t:Addr}{i:Nat}{items:Array Value}{x:Value}{Q:Zc}(st:s.heap.IsTupleIter it t i)(tt:s.heap.IsTuple t items)(hx:items[i]?=some x)
  (k:∀h',h'.IsTupleIter it t (i+1)->js it s.heap h'->Q x { s with heap:=h' }):wpAny (model prog w) A (kC (.ref it)) Q E s:=by
 obtain⟨oi,gi,ci,di⟩:=id st;obtain⟨ot,gt,_,nt,dt⟩:=tt;unfold kC;refine ao (vI (name:=vH "__next__") st.typeIs vG
  (BZ vG st.typeIs F.entry_tuple_iterator_next ?_ (F.args_tuple_iterator_next_1 _)))
 show wpAny _ _ (field (.ref it) 0 >>= _) _ _ s;refine ao (cq gi di (x:=.ref t) rfl ?_);show wpAny _ _ (if(Value.ref t==Value.none)=true then _ else _) _ _ s
 rw[if_neg (show ¬((Value.ref t==Value.none)=true)from jr)];show wpAny _ _ (field (.ref it) 1 >>= _) _ _ s;refine ao (cq gi di (x:=.int i 0) rfl ?_);show wpAny _ _ (seqItems? (.ref t) >>= _) _ _ s;refine ao (md gt dt ?_);simp only[oM,hx];refine ao (jg gi di (by simp) (a_ ⟨x,rfl,a_ (k _ ?_ (rT ..))⟩));exact⟨_,g8 _ gi (kB (gZ di _)),(Obj.cls_mapFields ..).trans ci,by
  rw[gZ di];simp[rawInt]⟩
theorem qj{it t:Addr}{i:Nat}{items:Array Value}{Q:Zc}(hh:A.handled=none)(st:s.heap.IsTupleIter it t i)(tt:s.heap.IsTuple t items)(hx:items[i]?=none)
  (k:∀h' e,Heap.ExtBut it s.heap h'->(∃o,h'.get? e=some o/\o.cls=.type "StopIteration")->E (.ref e) { s with heap:=h' }):wpAny (model prog w) A (kC (.ref it)) Q E s:=by
 obtain⟨oi,gi,ci,di⟩:=id st;obtain⟨ot,gt,_,nt,dt⟩:=tt;unfold kC;refine ao (vI (name:=vH "__next__") st.typeIs vG
  (BZ vG st.typeIs F.entry_tuple_iterator_next ?_ (F.args_tuple_iterator_next_1 _)))
 show wpAny _ _ (field (.ref it) 0 >>= _) _ _ s;refine ao (cq gi di (x:=.ref t) rfl ?_);show wpAny _ _ (if(Value.ref t==Value.none)=true then _ else _) _ _ s
 rw[if_neg (show ¬((Value.ref t==Value.none)=true)from jr)];show wpAny _ _ (field (.ref it) 1 >>= _) _ _ s;refine ao (cq gi di (x:=.int i 0) rfl ?_);show wpAny _ _ (seqItems? (.ref t) >>= _) _ _ s;refine ao (md gt dt ?_);simp only[oM,hx];refine ao (qh (ao (jg gi di (by simp) ?_)));show wpAny _ _ (newExc (.type "StopIteration") [] >>= _) _ _ _;refine ao ?_;simp only[newExc,newTuple];refine ao (rV ?_ (by size_fits));refine ao (m:=firstArgMember _ _) (wpAny_of_eq (a:=Value.none) (by first|rfl|(simp only[firstArgMember];rfl)) ?_)
 refine rV ?_ (by size_fits);simp only[raiseNew];refine ao (wpAny_handled ?_)
 first|rw[show A.in1.handled=none from hh] | rw[hh]
 refine ao (a_ (wpAny_throw ?_));exact k _ _ (((rT ..).extBut.push _).push _) ⟨_,dz _ rfl,rfl⟩
theorem B0{z TI TO i1 i2 l1 l2:Addr}{k1 k2:Nat}{xs ys:Array Value}{x y a b:Value}{Q:Zc}(D:oG z TI TO i1 i2 l1 l2)
  (gz:IsZip s.heap z TI TO .none) (gI:IsPair s.heap TI (.ref i1) (.ref i2)) (gO:IsPair s.heap TO a b)
  (g1:s.heap.IsTupleIter i1 l1 k1) (g2:s.heap.IsTupleIter i2 l2 k2) (t1:s.heap.IsTuple l1 xs) (t2:s.heap.IsTuple l2 ys) (hx:xs[k1]?=some x) (hy:ys[k2]?=some y)
  (k:∀h',IsZip h' z TI TO (rawInt s.heap.objs.size)->IsPair h' TO x y->h'.IsTupleIter i1 l1 (k1+1)->h'.IsTupleIter i2 l2 (k2+1)->IsPair h' s.heap.objs.size x y->h'.objs.size=s.heap.objs.size+1 ->
   (∀c o,c≠z->c≠TO->c≠i1->c≠i2->s.heap.get? c=some o->h'.get? c=some o)->Q (.ref s.heap.objs.size) { s with heap:=h' }) :
  wpAny (model prog w) A (cO.«zip.__next__» ⟨[.ref z],[]⟩) (fun fin s'=>∃v,fin=.done (.ret v)/\Q v s') E s:=by
 show wpAny _ _ (field (.ref z) 2 >>= _) _ _ _;refine ao (cq gz rfl (x:=.bool false) rfl ?_);show wpAny _ _ (field (.ref z) 3 >>= _) _ _ _;refine ao (cq gz rfl (x:=.ref TI) rfl ?_);refine ao (md gI rfl ?_);show wpAny _ _ (vF (.ref z) >>= _) _ _ _;refine ao ?_;unfold vF;refine ao (cq gz rfl (x:=.none) rfl (a_ ?_));simp only[if_true];refine ao (qh ?_);refine ao (cq gz rfl (x:=.ref TO) rfl ?_);refine ao (oF gz (by simp) fun m₁ gz₁ u₁=>?_)
 replace gz₁:IsZip m₁ z TI TO .ellipsis:=gz₁
 refine ao ?_;simp only[List.zipIdx_cons,List.zipIdx_nil,rW,List.forIn_nil];refine ao (ao (rS ?_));show wpAny _ _ (kC (.ref i1) >>= _) _ _ _;refine ao (jV (g1.extBut u₁.extBut D.i1z) (t1.extBut u₁.extBut D.l1z) hx fun m₂ g1₂ u₂=>a_ ?_);have gO₂:IsPair m₂ TO a b:=u₂.extBut _ _ D.TOi1 (u₁.extBut _ _ D.TOz gO);refine ao (md gO₂ rfl ?_);refine ao (wpAny_updateSeq_pair gO₂ fun m₃ gO₃ u₃=>?_)
 replace gO₃:IsPair m₃ TO x b:=gO₃
 refine ao (vE (a_ ?_));refine ao (ao (rS ?_));show wpAny _ _ (kC (.ref i2) >>= _) _ _ _;refine ao (jV (((g2.extBut u₁.extBut D.i2z).extBut u₂.extBut D.i12.symm).extBut u₃.extBut D.TOi2.symm)
  (((t2.extBut u₁.extBut D.l2z).extBut u₂.extBut D.l2i1).extBut u₃.extBut D.l2TO) hy fun m₄ g2₄ u₄=>a_ ?_)
 have gO₄:IsPair m₄ TO x b:=u₄.extBut _ _ D.TOi2 gO₃;refine ao (md gO₄ rfl ?_);refine ao (wpAny_updateSeq_pair gO₄ fun m₅ gO₅ u₅=>?_)
 replace gO₅:IsPair m₅ TO x y:=gO₅
 refine ao (vE (a_ (a_ ?_)));refine ao (md gO₅ rfl ?_);refine ao (wpAny_newTuple ?_);have esz:m₅.objs.size=s.heap.objs.size:=by rw[u₅.1,u₄.1,u₃.1,u₂.1,u₁.1]
 have gz₅:IsZip m₅ z TI TO .ellipsis:=u₅.extBut _ _ D.TOz.symm (u₄.extBut _ _ D.i2z.symm (u₃.extBut _ _ D.TOz.symm (u₂.extBut _ _ D.i1z.symm gz₁)));have kp₅:∀c o,c≠z->c≠TO->c≠i1->c≠i2->s.heap.get? c=some o->m₅.get? c=some o:=fun c o c1 c2 c3 c4 e =>
  u₅.extBut _ _ c2 (u₄.extBut _ _ c4 (u₃.extBut _ _ c2 (u₂.extBut _ _ c3 (u₁.extBut _ _ c1 e))))
 have g1₅:m₅.IsTupleIter i1 l1 (k1+1):=((g1₂.extBut u₃.extBut D.TOi1.symm).extBut u₄.extBut D.i12).extBut u₅.extBut D.TOi1.symm;have g2₅:m₅.IsTupleIter i2 l2 (k2+1):=g2₄.extBut u₅.extBut D.TOi2.symm;have zlt:z<m₅.objs.size:=aM gz₅;show wpAny _ _ (cO.SmallTypes.ownedTupleHandOut (.ref z) (.ref m₅.objs.size) >>= _) _ _ _;refine ao ?_;unfold cO.SmallTypes.ownedTupleHandOut;have gz₆:IsZip (m₅.push { cls:=.type "tuple",data:=.seq #[x,y] }) z TI TO .ellipsis:=bb _ gz₅;refine ao (oF gz₆ (by simp) fun m₇ gz₇ u₇=>?_)
 replace gz₇:IsZip m₇ z TI TO (rawInt m₅.objs.size):=gz₇
 refine oF gz₇ (by simp) fun m₈ gz₈ u₈=>?_
 replace gz₈:IsZip m₈ z TI TO (rawInt m₅.objs.size):=gz₈
 have up:∀c o,c≠z->m₅.get? c=some o->m₈.get? c=some o:=fun c o c1 e=>u₈.extBut _ _ c1 (u₇.extBut _ _ c1 (bb _ e));have gT₈:IsPair m₈ m₅.objs.size x y:=u₈.extBut _ _ (eK zlt) (u₇.extBut _ _ (eK zlt) (dz _ rfl));have ez8:m₈.objs.size=m₅.objs.size+1:=by rw[u₈.1,u₇.1,kq]
 rw[esz]at gz₈ gT₈ ez8;refine a_ ⟨_,rfl,?_⟩;show Q (.ref m₅.objs.size) _;rw[esz];refine k m₈ gz₈ (up _ _ D.TOz gO₅) ?_ ?_ gT₈ ez8 fun c o c1 c2 c3 c4 e=>up c o c1 (kp₅ c o c1 c2 c3 c4 e)
 ·obtain⟨o,e,r⟩:=g1₅;exact⟨o,up _ o D.i1z e,r⟩
 ·obtain⟨o,e,r⟩:=g2₅;exact⟨o,up _ o D.i2z e,r⟩
theorem Dd{z TI TO i1 i2 l1 l2:Addr}{k1 k2:Nat}{xs ys:Array Value}{a b:Value}{Q:Fin->Shared->Prop}(hh:A.handled=none)(D:oG z TI TO i1 i2 l1 l2)
  (gz:IsZip s.heap z TI TO .none) (gI:IsPair s.heap TI (.ref i1) (.ref i2)) (gO:IsPair s.heap TO a b)
  (g1:s.heap.IsTupleIter i1 l1 k1) (g2:s.heap.IsTupleIter i2 l2 k2) (t1:s.heap.IsTuple l1 xs) (t2:s.heap.IsTuple l2 ys) (fin:xs[k1]?=none∨ys[k2]?=none)
  (k:∀h' e,(∀c o,c≠z->c≠TO->c≠i1->c≠i2->s.heap.get? c=some o->h'.get? c=some o)->(∃o,h'.get? e=some o/\o.cls=.type "StopIteration")->E (.ref e) { s with heap:=h' }) :
  wpAny (model prog w) A (cO.«zip.__next__» ⟨[.ref z],[]⟩) Q E s:=by
 show wpAny _ _ (field (.ref z) 2 >>= _) _ _ _;refine ao (cq gz rfl (x:=.bool false) rfl ?_);show wpAny _ _ (field (.ref z) 3 >>= _) _ _ _;refine ao (cq gz rfl (x:=.ref TI) rfl ?_);refine ao (md gI rfl ?_);show wpAny _ _ (vF (.ref z) >>= _) _ _ _;refine ao ?_;unfold vF;refine ao (cq gz rfl (x:=.none) rfl (a_ ?_));simp only[if_true];refine ao (qh ?_);refine ao (cq gz rfl (x:=.ref TO) rfl ?_);refine ao (oF gz (by simp) fun m₁ gz₁ u₁=>?_)
 replace gz₁:IsZip m₁ z TI TO .ellipsis:=gz₁
 refine ao ?_;simp only[List.zipIdx_cons,List.zipIdx_nil,rW,List.forIn_nil];refine ao (ao (rS ?_));show wpAny _ _ (kC (.ref i1) >>= _) _ _ _;cases hx:xs[k1]? with
 |none =>
  refine ao (qj hh (g1.extBut u₁.extBut D.i1z) (t1.extBut u₁.extBut D.l1z) hx fun m₂ e u₂ he=>?_);obtain⟨oe,ge,ce⟩:=he;have gz₂:IsZip m₂ z TI TO .ellipsis:=u₂ _ _ D.i1z.symm gz₁;have nez:e≠z:=fun q=>by subst q;rw[gz₂]at ge;cases ge;simp at ce
  refine oF gz₂ (by simp) fun m₃ _ u₃=>k m₃ e (fun c o c1 _ c3 _ q=>u₃.extBut _ _ c1 (u₂ _ _ c3 (u₁.extBut _ _ c1 q))) ⟨oe,u₃.extBut _ _ nez ge,ce⟩
 |some x =>
  have hy:ys[k2]?=none:=by rcases fin with q|q;rw[hx]at q;cases q;exact q
  refine ao (jV (g1.extBut u₁.extBut D.i1z) (t1.extBut u₁.extBut D.l1z) hx fun m₂ g1₂ u₂=>a_ ?_);have gO₂:IsPair m₂ TO a b:=u₂.extBut _ _ D.TOi1 (u₁.extBut _ _ D.TOz gO);refine ao (md gO₂ rfl ?_);refine ao (wpAny_updateSeq_pair gO₂ fun m₃ gO₃ u₃=>?_);refine ao (vE (a_ ?_));refine ao (ao (rS ?_));show wpAny _ _ (kC (.ref i2) >>= _) _ _ _;refine ao (qj hh (((g2.extBut u₁.extBut D.i2z).extBut u₂.extBut D.i12.symm).extBut u₃.extBut D.TOi2.symm)
   (((t2.extBut u₁.extBut D.l2z).extBut u₂.extBut D.l2i1).extBut u₃.extBut D.l2TO) hy fun m₄ e u₄ he=>?_)
  obtain⟨oe,ge,ce⟩:=he;have gz₄:IsZip m₄ z TI TO .ellipsis:=u₄ _ _ D.i2z.symm (u₃.extBut _ _ D.TOz.symm (u₂.extBut _ _ D.i1z.symm gz₁));have nez:e≠z:=fun q=>by subst q;rw[gz₄]at ge;cases ge;simp at ce
  refine oF gz₄ (by simp) fun m₅ _ u₅=>k m₅ e (fun c o c1 c2 c3 c4 q=>u₅.extBut _ _ c1 (u₄ _ _ c4 (u₃.extBut _ _ c2 (u₂.extBut _ _ c3 (u₁.extBut _ _ c1 q))))) ⟨oe,u₅.extBut _ _ nez ge,ce⟩
theorem uq{z TI TO i1 i2 l1 l2:Addr}{k1 k2:Nat}{xs ys:Array Value}{x y a b:Value}{Q:Option Value->Shared->Prop}(D:oG z TI TO i1 i2 l1 l2)
  (gz:IsZip s.heap z TI TO .none) (gI:IsPair s.heap TI (.ref i1) (.ref i2)) (gO:IsPair s.heap TO a b)
  (g1:s.heap.IsTupleIter i1 l1 k1) (g2:s.heap.IsTupleIter i2 l2 k2) (t1:s.heap.IsTuple l1 xs) (t2:s.heap.IsTuple l2 ys) (hx:xs[k1]?=some x) (hy:ys[k2]?=some y)
  (k:∀h',IsZip h' z TI TO (rawInt s.heap.objs.size)->IsPair h' TO x y->h'.IsTupleIter i1 l1 (k1+1)->h'.IsTupleIter i2 l2 (k2+1)->IsPair h' s.heap.objs.size x y->h'.objs.size=s.heap.objs.size+1 ->
   (∀c o,c≠z->c≠TO->c≠i1->c≠i2->s.heap.get? c=some o->h'.get? c=some o)->Q (some (.ref s.heap.objs.size)) { s with heap:=h' }) :
  wpAny (model prog w) A (pyNext (.ref z)) Q E s:=by
 have hT:s.TypeIs (.ref z) "zip":=⟨_,gz,rfl⟩;unfold pyNext;exact ao (wpAny_attempt (vI (name:=vH "__next__") hT vD
  (BZ vD hT F.entry_zip_next
   (B0 D gz gI gO g1 g2 t1 t2 hx hy fun h' a1 a2 a3 a4 a5 a6 a7=>a_ (k h' a1 a2 a3 a4 a5 a6 a7)) (F.args_zip_next_1 _))))
theorem wD{z TI TO i1 i2 l1 l2:Addr}{k1 k2:Nat}{xs ys:Array Value}{a b:Value}{Q:Option Value->Shared->Prop}(hh:A.handled=none)(D:oG z TI TO i1 i2 l1 l2)
  (gz:IsZip s.heap z TI TO .none) (gI:IsPair s.heap TI (.ref i1) (.ref i2)) (gO:IsPair s.heap TO a b)
  (g1:s.heap.IsTupleIter i1 l1 k1) (g2:s.heap.IsTupleIter i2 l2 k2) (t1:s.heap.IsTuple l1 xs) (t2:s.heap.IsTuple l2 ys) (fin:xs[k1]?=none∨ys[k2]?=none)
  (k:∀h',(∀c o,c≠z->c≠TO->c≠i1->c≠i2->s.heap.get? c=some o->h'.get? c=some o)->Q none { s with heap:=h' }):wpAny (model prog w) A (pyNext (.ref z)) Q E s:=by
 have hT:s.TypeIs (.ref z) "zip":=⟨_,gz,rfl⟩;unfold pyNext;refine ao (wpAny_attempt (vI (name:=vH "__next__") hT vD
  (BZ vD hT F.entry_zip_next (Dd hh D gz gI gO g1 g2 t1 t2 fin fun h' e kp he=>?_) (F.args_zip_next_1 _))))
 obtain⟨o,ho,hc⟩:=he;refine ao (wpAny_isInstance (T:="StopIteration") (b:=true) ⟨o,ho,hc⟩ isSubtype_stop ?_);exact a_ (k _ kp)
end
abbrev JX(h:Heap)(l1:Addr):Heap:=h.push { cls:=.type "tuple_iterator",data:=.fields #[.ref l1,.int 0 0] }
abbrev JW(h:Heap)(l1 l2:Addr):Heap:=(JX h l1).push { cls:=.type "tuple_iterator",data:=.fields #[.ref l2,.int 0 0] }
abbrev JV(h:Heap)(l1 l2:Addr):Heap:=(JW h l1 l2).push { cls:=.type "tuple",data:=.seq #[.ref h.objs.size,.ref (JX h l1).objs.size] }
abbrev JU(h:Heap)(l1 l2:Addr):Heap:=(JV h l1 l2).push { cls:=.type "tuple",data:=.seq #[.none,.none] }
abbrev IT(h:Heap)(l1 l2:Addr):Heap:=(JU h l1 l2).push { cls:=.type "zip",data:=.fields #[.none,.bool false,.bool false,.ref (JW h l1 l2).objs.size,.ref (JV h l1 l2).objs.size] }
theorem Ab(l1 l2:Addr)(xs ys:Array Value):
  Meets (cO.«zip.__new__» ⟨[.type "zip",.ref l1,.ref l2],[]⟩) (fun _ R s=>s.heap.IsTuple l1 xs/\s.heap.IsTuple l2 ys /\
   R (.ok (.ret (.ref (JU s.heap l1 l2).objs.size))) { s with heap:=IT s.heap l1 l2 }) :=
 .of_wp fun prog w A R s h=>by
  obtain⟨hp,g,d,tk,os⟩:=s;obtain⟨q1,q2,h⟩:=h;have hsub:=sub_zip;have T1:Heap.IsTuple (Shared.heap ⟨hp,g,d,tk,os⟩) l1 xs:=q1;have T2:Heap.IsTuple (Shared.heap ⟨hp.push { cls:=.type "tuple_iterator",data:=.fields #[.ref l1,.int 0 0] },g,d,tk,os⟩) l2 ys:=Heap.IsTuple.push q2 _
  wp_walk using AR T1,AR T2
  exact⟨_,rfl,h⟩
section
variable{prog:bB}{w:World}{A:Around}{E:Zc}{s:Shared}
theorem CP{l1 l2:Addr}{xs ys:Array Value}{Q:Zc}(t1:s.heap.IsTuple l1 xs)(t2:s.heap.IsTuple l2 ys)
  (k:∀h',IsZip h' (s.heap.objs.size+4) (s.heap.objs.size+2) (s.heap.objs.size+3) .none->IsPair h' (s.heap.objs.size+2) (.ref s.heap.objs.size) (.ref (s.heap.objs.size+1)) ->
   IsPair h' (s.heap.objs.size+3) .none .none->h'.IsTupleIter s.heap.objs.size l1 0->h'.IsTupleIter (s.heap.objs.size+1) l2 0->(∀c o,s.heap.get? c=some o->h'.get? c=some o)->Q (.ref (s.heap.objs.size+4)) { s with heap:=h' }) :
  wpAny (model prog w) A (call (.type "zip") [.ref l1,.ref l2]) Q E s:=by
 refine callType_new F.called_zip (by decide) (F.typeCall_zip_2 _ _) (F.newCall_zip_2 _ _) (fun obj=>F.args_object_init_3 obj _ _) F.entry_zip_new
  (Ab l1 l2 xs ys) ⟨t1,t2,?_⟩
 have z1:(JX s.heap l1).objs.size=s.heap.objs.size+1:=kq ..;have z2:(JW s.heap l1 l2).objs.size=s.heap.objs.size+2:=by rw[kq,z1]
 have z3:(JV s.heap l1 l2).objs.size=s.heap.objs.size+3:=by rw[kq,z2]
 have z4:(JU s.heap l1 l2).objs.size=s.heap.objs.size+4:=by rw[kq,z3]
 have g5:(IT s.heap l1 l2).get? (JU s.heap l1 l2).objs.size=some _:=dz _ rfl;have g4:(IT s.heap l1 l2).get? (JV s.heap l1 l2).objs.size=some _:=bb _ (dz _ rfl);have g3:(IT s.heap l1 l2).get? (JW s.heap l1 l2).objs.size=some _:=bb _ (bb _ (dz _ rfl));have g2:(IT s.heap l1 l2).get? (JX s.heap l1).objs.size=some _:=bb _ (bb _ (bb _ (dz _ rfl)));have g1:(IT s.heap l1 l2).get? s.heap.objs.size=some _:=bb _ (bb _ (bb _ (bb _ (dz _ rfl))));show _/\_;rw[z2,z3,z4]at g5;rw[z1,z2]at g3;rw[z3]at g4;rw[z1]at g2;rw[z4];exact⟨⟨_,g5,rfl⟩,k _ g5 g3 g4 ⟨_,g1,rfl,rfl⟩ ⟨_,g2,rfl,rfl⟩ fun c o x =>
  bb _ (bb _ (bb _ (bb _ (bb _ x))))⟩
end
def JL(K:Za)(a b:Addr):It :=
  ⟨fun i H=>∃xs ys x y,b_ K H a xs/\b_ K H b ys/\xs[i]?=some x/\ys[i]?=some y,
   fun i H x H'=>∃p u v,x=.ref p/\H p=none/\(∀xs,b_ K H a xs->xs[i]?=some u)/\(∀ys,b_ K H b ys->ys[i]?=some v)/\H'=upd H p (.tup [u,v]),
   fun i H=>∃xs ys,b_ K H a xs/\b_ K H b ys/\(xs.length<=i∨ys.length<=i)⟩
theorem B3{P:bB}{w:World}{K:Za}{es:List Expr}{kx:Nat}{U1:Pos}(a b z TI TO i1 i2:Addr)(D:oG z TI TO i1 i2 a b):
  uu P w K (.Tuple es kx U1) (JL K a b) [z,TI,TO,i1,i2] z (fun i h=>IsZip h z TI TO .none/\IsPair h TI (.ref i1) (.ref i2)/\(∃a b,IsPair h TO a b)/\h.IsTupleIter i1 a i/\h.IsTupleIter i2 b i) where
 mem:=by simp
 obj:=fun i h st c hc=>by
  obtain⟨hz,hTI,⟨u,v,hTO⟩,h1,h2⟩:=st;simp only[bw,jh,or_false]at hc;rcases hc with rfl|rfl|rfl|rfl|rfl
  ·exact⟨_,hz,fun v z=>by cases z⟩
  ·exact⟨_,hTI,fun v z=>by cases z⟩
  ·exact⟨_,hTO,fun v z=>by cases z⟩
  ·obtain⟨o,e,c,d⟩:=h1;exact⟨o,e,fun v z=>by rw[d]at z;cases z⟩
  ·obtain⟨o,e,c,d⟩:=h2;exact⟨o,e,fun v z=>by rw[d]at z;cases z⟩
 keep:=fun i h h' st k=>by
  obtain⟨hz,hTI,⟨u,v,hTO⟩,⟨o1,e1,r1⟩,⟨o2,e2,r2⟩⟩:=st;exact⟨k z (by simp) _ hz,k TI (by simp) _ hTI,⟨u,v,k TO (by simp) _ hTO⟩,⟨o1,k i1 (by simp) o1 e1,r1⟩,⟨o2,k i2 (by simp) o2 e2,r2⟩⟩
 item:=by
  intro X hP hw hK hc i J6 s σ H E I hf st hg;subst hP hw hK;obtain⟨hz,hTI,⟨u0,v0,hTO⟩,h1,h2⟩:=st;obtain⟨xs,ys,x,y,hqx,hqy,hx,hy⟩:=hg;obtain⟨its,rx,px,zx⟩:=I.tuple hqx;obtain⟨jts,ry,py,zy⟩:=I.tuple hqy;obtain⟨u,hu,ru⟩:=rx.get hx;obtain⟨v,hv,rv⟩:=ry.get hy;refine uq D hz hTI hTO h1 h2 (xs:=its.toArray) (ys:=jts.toArray) px py (x:=u) (y:=v) (by simpa using hu) (by simpa using hv) fun h' a1 a2 a3 a4 a5 a6 hk=>?_;refine⟨_,rfl,wpAny_letOwnedTupleGo_zip (s:={ s with heap:=h' }) a1 fun h2' hz2 hs2=>?_⟩;have hs2':js z h' h2':=hs2;have nsz:s.heap.objs.size≠z:=eK (aM hz);have nsTO:s.heap.objs.size≠TO:=eK (aM hTO);have nsTI:s.heap.objs.size≠TI:=eK (aM hTI);have nsi1:s.heap.objs.size≠i1:=by obtain⟨o,ho,_⟩:=h1;exact eK (aM ho)
  have nsi2:s.heap.objs.size≠i2:=by obtain⟨o,ho,_⟩:=h2;exact eK (aM ho)
  have ht2:IsPair h2' s.heap.objs.size u v:=hs2'.extBut _ _ nsz a5;have I2:Inv X J6 σ (upd H s.heap.objs.size (.tup [x,y])) { s with heap:=h2',toks:=s.toks }:=by
   refine I.turnedNew (ch:=[z,TI,TO,i1,i2]) hf (fun c o hc q=>?_) ⟨_,ht2⟩ (fun _ z=>nomatch z) ⟨by show 2<=aj;decide,[u,v],.cons ru (.cons rv .nil),⟨_,ht2,rfl,_,rfl⟩⟩;have n1:c≠z:=fun q=>hc (by simp[q]);exact hs2'.extBut _ _ n1 (hk c o n1 (fun q=>hc (by simp[q])) (fun q=>hc (by simp[q])) (fun q=>hc (by simp[q])) q)
  have a3':h2'.IsTupleIter i1 a (i+1):=by obtain⟨o,e,r⟩:=a3;exact⟨o,hs2'.extBut _ _ D.i1z e,r⟩
  have a4':h2'.IsTupleIter i2 b (i+1):=by obtain⟨o,e,r⟩:=a4;exact⟨o,hs2'.extBut _ _ D.i2z e,r⟩
  refine⟨.ref s.heap.objs.size,_,I2,rfl,⟨_,x,y,rfl,I.fresh,fun zs hz=>by rw[I.tuple_inj hz hqx];exact hx,fun zs hz=>by rw[I.tuple_inj hz hqy];exact hy,rfl⟩,⟨hz2,hs2'.extBut _ _ D.TIz (hk _ _ D.TIz D.TITO D.TIi1 D.TIi2 hTI),⟨_,_,hs2'.extBut _ _ D.TOz a2⟩,a3',a4'⟩,fun c hc=>?_⟩;have hcn:=(hf c hc).1;simp only[bw,jh,or_false]at hc;have ne:c≠s.heap.objs.size:=by
   rcases hc with rfl|rfl|rfl|rfl|rfl
   ·exact nsz.symm
   ·exact nsTI.symm
   ·exact nsTO.symm
   ·exact nsi1.symm
   ·exact nsi2.symm
  rw[ai ne];exact hcn
 done:=by
  intro X hP hw hK hc i J6 s σ H E I hf st hg;subst hP hw hK;obtain⟨hz,hTI,⟨u0,v0,hTO⟩,h1,h2⟩:=st;obtain⟨xs,ys,hqx,hqy,hend⟩:=hg;obtain⟨its,rx,px,zx⟩:=I.tuple hqx;obtain⟨jts,ry,py,zy⟩:=I.tuple hqy;have lx:=rx.length;have ly:=ry.length;refine wD (I.ok.hd hc) D hz hTI hTO h1 h2 (xs:=its.toArray) (ys:=jts.toArray) px py (by rcases hend with q|q;exact .inl (by simp;omega);exact .inr (by simp;omega)) fun h' hk=>⟨rfl,?_⟩;have tr:∀c q,H c=some q->c∉[z,TI,TO,i1,i2]:=fun c q e m=>by rw[(hf c m).1]at e;cases e
  have kk:∀c o,c∉[z,TI,TO,i1,i2]->s.heap.get? c=some o->h'.get? c=some o:=fun c o hc q=>hk c o (fun q=>hc (by simp[q])) (fun q=>hc (by simp[q])) (fun q=>hc (by simp[q])) (fun q=>hc (by simp[q])) q;refine I.step (g':=s.gens) (d':=s.drawn) (t':=s.toks) (ch:=[z,TI,TO,i1,i2]) (fun c hc=>?_) (fun c o _ _ hc e _=>kk c o hc e) (fun c o _ _ hc e _=>⟨o.slots,kk c o hc e⟩) (fun _ _ _ _ n=>n) (fun c o hc e=>⟨o,kk c o hc e⟩) (fun _ _ e=>e) (fun _ _ _ e=>e) (fun c ps e=>⟨#[],by rw[e];simp⟩) (fun m hm=>?_) (fun c q e=>?_) I.bare
  ·obtain⟨f0,f1,f2,f3,f4,f5⟩:=hf c hc;exact⟨f3,f1,f4,f5⟩
  ·obtain⟨q,es',ep,ho,r⟩:=hm;exact⟨q,es',ep,kk _ q (fun z=>(hf _ z).2.1 rfl) ho,r⟩
  ·refine(I.hok c q e).stay (fun d v hd q'=>kk d v ?_ q') (fun _ q=>q) fun _ _ q=>q;rcases hd with z|z
   ·subst z;exact tr _ _ e
   ·exact tr _ _ z
 self:=fun _ _ _ _ _ st h=>vJ st.1 h
section
variable{X:Cx}{p pos:Pos}{es:List Expr}{kx:Nat}{U1:Pos}
def BB(K:Za)(ta:TA):TI:=fun σ H R=>ta σ H fun vs H1=>∃a b,vs=[.ref a,.ref b]/\(((∃xs,aA K H1 a xs)/\(∃ys,aA K H1 b ys)/\R (Itz K a b) H1)∨((∃xs,b_ K H1 a xs)/\(∃ys,b_ K H1 b ys)/\R (JL K a b) H1))
theorem Gd{a b:Expr}{ta:TA}(hg:Gl X "zip")(hm:X.mg "zip"=none)(ha:PA X [a,b] ta)(hs:aB [a,b] X.env=[(false,eval a X.env),(false,eval b X.env)]:=by rfl)(hs2:aB [b] X.env=[(false,eval b X.env)]:=by rfl):
  PI X (.Tuple es kx U1) (.Call (.Name "zip" p) [a,b] [] pos) (BB X.K ta):=by
 intro J6 s σ H R I h;refine Call_ (pG I hg hm boot_zip (AQ (cM (ha pos J6 s σ H _ I h) fun us s1 ⟨vs,H1,I1,r1,q1⟩=>?_) (by rw[hs,hs2]) (by rw[hs2];rfl)));obtain⟨l1,l2,e,q⟩:=q1;subst e;obtain⟨u,v,rfl,ru,rv⟩:=vals2 r1;cases ru;cases rv;have fin:∀b∈[s1.heap.objs.size+4,s1.heap.objs.size+2,s1.heap.objs.size+3,s1.heap.objs.size,s1.heap.objs.size+1],lr X J6 H1 b:=fun b hb=>by
  have hb':s1.heap.objs.size<=b:=by
   simp only[bw,jh,or_false]at hb;rcases hb with rfl|rfl|rfl|rfl|rfl<;>omega
  exact I1.fpOk hb' (I1.hok.fresh hb')
 rcases q with⟨⟨xs,hx⟩,⟨ys,hy⟩,q⟩|⟨⟨xs,hx⟩,⟨ys,hy⟩,q⟩
 ·obtain⟨its,rx,px,zx⟩:=I1.list hx;obtain⟨jts,ry,py,zy⟩:=I1.list hy;obtain⟨o1,n1,e1,_⟩:=id px;obtain⟨o2,n2,e2,_⟩:=id py;refine call_zip_2 px.isList py.isList fun h' a1 a2 a3 a4 a5 a6 hk=>?_;refine vJ (s:={ s1 with heap:=h' }) a1 ?_;have hk':∀b o,s1.heap.get? b=some o->h'.get? b=some o:=hk;have I2:Inv X J6 σ H1 { s1 with heap:=h' }:=I1.kept (t':=s1.toks) hk';exact⟨_,_,_,_,H1,rfl,I2,Dm l1 l2 _ _ _ _ _ (zipApart_new (aM e1) (aM e2)),⟨a1,a2,⟨_,_,a3⟩,a4,a5⟩,fin,q⟩
 ·obtain⟨its,rx,px,zx⟩:=I1.tuple hx;obtain⟨jts,ry,py,zy⟩:=I1.tuple hy;obtain⟨o1,e1,_⟩:=id px;obtain⟨o2,e2,_⟩:=id py;refine CP (xs:=its.toArray) (ys:=jts.toArray) px py fun h' a1 a2 a3 a4 a5 hk=>?_;refine vJ (s:={ s1 with heap:=h' }) a1 ?_;have hk':∀b o,s1.heap.get? b=some o->h'.get? b=some o:=hk;have I2:Inv X J6 σ H1 { s1 with heap:=h' }:=I1.kept (t':=s1.toks) hk';exact⟨_,_,_,_,H1,rfl,I2,B3 l1 l2 _ _ _ _ _ (zipApart_new (aM e1) (aM e2)),⟨a1,a2,⟨_,_,a3⟩,a4,a5⟩,fin,q⟩
end
inductive DT where
 |k (a:d9)
 |t (l:List DT)
 |s (l:List DT)
mutual
def Hl:(x y:DT)->Decidable (x=y)
 |.k a,.k b=>if h:a=b then Decidable.isTrue (by rw[h])else Decidable.isFalse fun e=>h (by injection e)
 |.t l,.t m=>match decDTs l m with
  |Decidable.isTrue h=>Decidable.isTrue (by rw[h])
  |Decidable.isFalse h=>Decidable.isFalse fun e=>h (by injection e)
 |.s l,.s m=>match decDTs l m with
  |Decidable.isTrue h=>Decidable.isTrue (by rw[h])
  |Decidable.isFalse h=>Decidable.isFalse fun e=>h (by injection e)
 |.k _,.t _=>Decidable.isFalse nofun
 |.k _,.s _=>Decidable.isFalse nofun
 |.t _,.k _=>Decidable.isFalse nofun
 |.t _,.s _=>Decidable.isFalse nofun
 |.s _,.k _=>Decidable.isFalse nofun
 |.s _,.t _=>Decidable.isFalse nofun
def decDTs:(x y:List DT)->Decidable (x=y)
 |[],[]=>Decidable.isTrue rfl
 |[],_::_=>Decidable.isFalse nofun
 |_::_,[]=>Decidable.isFalse nofun
 |a::l,b::m=>match Hl a b with
  |Decidable.isTrue h=>match decDTs l m with
   |Decidable.isTrue h'=>Decidable.isTrue (by rw[h,h'])
   |Decidable.isFalse h'=>Decidable.isFalse fun e=>h' (by injection e)
  |Decidable.isFalse h=>Decidable.isFalse fun e=>h (by injection e)
end
instance:DecidableEq DT:=Hl
mutual
def DT.depth:DT->Nat
 |.k _=>0
 |.t l=>DT.depths l+1
 |.s l=>DT.depths l+1
def DT.depths:List DT->Nat
 |[]=>0
 |a::r=>max (DT.depth a) (DT.depths r)
end
mutual
def rq(h:Heap):DT->Value->Prop
 |.k a,v=>cP a v=true
 |.t l,v=>∃a items,v=.ref a/\h.IsTuple a items/\DAts h l items.toList
 |.s l,v=>∃a items,v=.ref a/\h.IsList a items/\DAts h l items.toList
def DAts(h:Heap):List DT->List Value->Prop
 |[],vs=>vs=[]
 |k::r,vs=>∃v us,vs=v::us/\rq h k v/\DAts h r us
end
theorem DAts.length{h:Heap}:∀{xs:List DT}{vs:Zf},DAts h xs vs->xs.length=vs.length
 |[],vs,e=>by have e':vs=[]:=e;rw[e'];rfl
 |x::xs,vs,e=>by
  obtain⟨v,us,rfl,_,h2⟩:=e;simp[DAts.length h2]
theorem DAts.get{h:Heap}:∀{xs:List DT}{vs:Zf}{i:Nat}{v:Value},DAts h xs vs->vs[i]?=some v->∃x,xs[i]?=some x/\rq h x v
 |[],vs,i,v,e,q=>by have e':vs=[]:=e;subst e';simp at q
 |x::xs,vs,i,v,e,q=>by
  obtain⟨u,us,rfl,h1,h2⟩:=e;cases i with
  |zero =>
   simp at q;subst q;exact⟨x,rfl,h1⟩
  |succ i =>
   obtain⟨y,e1,e2⟩:=DAts.get h2 (i:=i) (v:=v) (by simpa using q);exact⟨y,by simpa using e1,e2⟩
theorem DT.depths_get{l:List DT}{x:DT}{i d:Nat}(h:DT.depths l<=d)(e:l[i]?=some x):x.depth<=d:=by
 induction l generalizing i with
 |nil=>simp at e
 |cons a r ih =>
  have h':max a.depth (DT.depths r)<=d:=h;cases i with
  |zero=>simp at e;subst e;omega
  |succ i=>exact ih (by omega) (by simpa using e)
theorem Al{h:Heap}{a:Addr}{i j:Array Value}(x:h.IsList a i)(y:h.IsList a j):i=j:=by
 obtain⟨o,ho,_,n,hd⟩:=x;obtain⟨o',ho',_,n',hd'⟩:=y;rw[ho]at ho';cases ho';rw[hd]at hd';injection hd'
theorem yC{h:Heap}{a:Addr}{i j:Array Value}(x:h.IsTuple a i)(y:h.IsTuple a j):i=j:=by
 obtain⟨o,ho,_,n,hd⟩:=x;obtain⟨o',ho',_,n',hd'⟩:=y;rw[ho]at ho';cases ho';rw[hd]at hd';injection hd'
theorem jD{h:Heap}{a:Addr}{i j:Array Value}(x:h.IsList a i)(y:h.IsTuple a j):False:=by
 obtain⟨o,ho,hc,_⟩:=x;obtain⟨o',ho',hc',_⟩:=y;rw[ho]at ho';cases ho';rw[hc]at hc';simp at hc'
theorem u8{a b:d9}{v:Value}(h1:cP a v=true)(h2:cP b v=true):a=b:=by
 rcases ar h1 with⟨i,t,rfl,rfl⟩|⟨i,t,rfl,rfl⟩
 ·rcases ar h2 with⟨j,u,rfl,e⟩|⟨j,u,rfl,e⟩
  ·cases e;rfl
  ·cases e
 ·rcases ar h2 with⟨j,u,rfl,e⟩|⟨j,u,rfl,e⟩
  ·cases e
  ·cases e;rfl
theorem ip{a:d9}{b:Addr}(h:cP a (.ref b)=true):False:=by
 rcases ar h with⟨_,_,_,e⟩|⟨_,_,_,e⟩<;>cases e
theorem rq.inj{h:Heap}:∀(d:Nat) {x y:DT}{v:Value},x.depth<=d->rq h x v->rq h y v->x=y:=by
 have key:∀(d:Nat) (ih:∀{x y:DT}{v:Value},x.depth<=d->rq h x v->rq h y v->x=y) (xs ys:List DT) (vs:Zf),DT.depths xs<=d->DAts h xs vs->DAts h ys vs->xs=ys:=by
  intro d ih xs
  induction xs with
  |nil =>
   intro ys vs _ hx hy;have hx':vs=[]:=hx;subst hx';cases ys with
   |nil=>rfl
   |cons y ys=>obtain⟨_,_,e,_⟩:=hy;cases e
  |cons x xs ihl =>
   intro ys vs hd hx hy;obtain⟨v,us,rfl,hx1,hx2⟩:=hx;cases ys with
   |nil=>have hy':v::us=[]:=hy;cases hy'
   |cons y ys =>
    obtain⟨v',us',e,hy1,hy2⟩:=hy;cases e;have hd':max x.depth (DT.depths xs)<=d:=hd;rw[ih (by omega) hx1 hy1,ihl ys us (by omega) hx2 hy2]
 intro d
 induction d with
 |zero =>
  intro x y v hd hx hy;cases x with
  |t l=>exact absurd hd (by show ¬(DT.depths l+1<=0);omega)
  |s l=>exact absurd hd (by show ¬(DT.depths l+1<=0);omega)
  |k a =>
   cases y with
   |k b=>rw[u8 hx hy]
   |t l=>obtain⟨b,_,rfl,_⟩:=hy;exact(ip hx).elim
   |s l=>obtain⟨b,_,rfl,_⟩:=hy;exact(ip hx).elim
 |succ d ih =>
  intro x y v hd hx hy;cases x with
  |k a =>
   cases y with
   |k b=>rw[u8 hx hy]
   |t l=>obtain⟨b,_,rfl,_⟩:=hy;exact(ip hx).elim
   |s l=>obtain⟨b,_,rfl,_⟩:=hy;exact(ip hx).elim
  |t l =>
   obtain⟨a,i,rfl,hi,hx⟩:=hx;cases y with
   |k b=>exact(ip hy).elim
   |t m =>
    obtain⟨a',j,e,hj,hy⟩:=hy;cases e;rw[yC hj hi]at hy;rw[key d (fun h1=>ih h1) l m i.toList (by have:DT.depths l+1<=d+1:=hd;omega) hx hy]
   |s m =>
    obtain⟨a',j,e,hj,hy⟩:=hy;cases e;exact(jD hj hi).elim
  |s l =>
   obtain⟨a,i,rfl,hi,hx⟩:=hx;cases y with
   |k b=>exact(ip hy).elim
   |s m =>
    obtain⟨a',j,e,hj,hy⟩:=hy;cases e;rw[Al hj hi]at hy;rw[key d (fun h1=>ih h1) l m i.toList (by have:DT.depths l+1<=d+1:=hd;omega) hx hy]
   |t m =>
    obtain⟨a',j,e,hj,hy⟩:=hy;cases e;exact(jD hi hj).elim
theorem fV{l m:List DT}(hl:l.length=m.length):((ng l.length).all fun j=>decide (l[j]?=m[j]?))=decide (l=m):=by
 by_cases e:l=m
 ·subst e;simp
 ·rw[zzr0 e];rw[List.all_eq_false];apply Classical.byContradiction;intro h;apply e;apply List.ext_getElem?;intro i;by_cases hi:i<l.length
  ·apply Classical.byContradiction;intro hne;exact h ⟨i,List.mem_range.mpr hi,by simpa using hne⟩
  ·rw[List.getElem?_eq_none (by omega),List.getElem?_eq_none (by omega)]
section
variable{s:Shared}
theorem Hf:∀(d:Nat) {A:Around}{x y:DT}{u v:Value},x.depth<=d->y.depth<=d->A.units+d<cLine->rq s.heap x u->rq s.heap y v->bP A s u v (decide (x=y)):=by
 have leaves:∀{A:Around}{a b:d9}{u v:Value},cP a u=true->cP b v=true->bP A s u v (decide (DT.k a=DT.k b)):=by
  intro A a b u v h1 h2;have hd:decide (DT.k a=DT.k b)=decide (a=b):=by
   by_cases e:a=b
   ·subst e;simp
   ·have:¬(DT.k a=DT.k b):=fun z=>e (by injection z);rw[zzr0 this,zzr0 e]
  rw[hd];rcases ar h1 with⟨i,t,rfl,rfl⟩|⟨i,t,rfl,rfl⟩
  ·rcases ar h2 with⟨j,u,rfl,rfl⟩|⟨j,u,rfl,rfl⟩
   ·rw[wK];exact bP.int_int i t j u
   ·rw[wJ];exact bP.int_str i t j u
  ·rcases ar h2 with⟨j,u,rfl,rfl⟩|⟨j,u,rfl,rfl⟩
   ·rw[wI];exact bP.str_int i t j u
   ·rw[wH];have:=bP.str_str (A:=A) (s:=s) i t j u;rwa[show(i==j)=decide (i=j)from by by_cases e:i=j<;>simp[e]]at this
 have kt:∀{A:Around}{a:d9}{u:Value}{b:Addr}{items:Array Value},A.units<cLine->cP a u=true->s.heap.IsTuple b items->bP A s u (.ref b) false/\bP A s (.ref b) u false:=by
  intro A a u b items hu h1 ht;rcases ar h1 with⟨i,t,rfl,rfl⟩|⟨i,t,rfl,rfl⟩
  ·exact⟨bP.int_tuple i t ht hu,bP.tuple_int i t ht hu⟩
  ·exact⟨bP.str_tuple i t ht hu,bP.tuple_str i t ht hu⟩
 have kl:∀{A:Around}{a:d9}{u:Value}{b:Addr}{items:Array Value},A.units<cLine->cP a u=true->s.heap.IsList b items->bP A s u (.ref b) false/\bP A s (.ref b) u false:=by
  intro A a u b items hu h1 ht;rcases ar h1 with⟨i,t,rfl,rfl⟩|⟨i,t,rfl,rfl⟩
  ·exact⟨bP.int_list i t ht hu,bP.list_int i t ht hu⟩
  ·exact⟨bP.str_list i t ht hu,bP.list_str i t ht hu⟩
 intro d
 induction d with
 |zero =>
  intro A x y u v hdx hdy hu hx hy;cases x with
  |t l=>exact absurd hdx (by show ¬(DT.depths l+1<=0);omega)
  |s l=>exact absurd hdx (by show ¬(DT.depths l+1<=0);omega)
  |k a =>
   cases y with
   |t l=>exact absurd hdy (by show ¬(DT.depths l+1<=0);omega)
   |s l=>exact absurd hdy (by show ¬(DT.depths l+1<=0);omega)
   |k b=>exact leaves hx hy
 |succ d ih =>
  intro A x y u v hdx hdy hu hx hy;have items:∀{l m:List DT}{i j:Array Value},DT.depths l<=d->DT.depths m<=d->DAts s.heap l i.toList->DAts s.heap m j.toList->∀n (h1:n<i.size) (h2:n<j.size),bP A.in1 s i[n] j[n] (decide (l[n]?=m[n]?)):=by
   intro l m i j hl hm hi hj n h1 h2;obtain⟨x,ex,hx⟩:=hi.get (i:=n) (v:=i[n]) (by simp[h1]);obtain⟨y,ey,hy⟩:=hj.get (i:=n) (v:=j[n]) (by simp[h2]);rw[ex,ey];have hd:decide ((some x:Option DT)=some y)=decide (x=y):=by
    by_cases e:x=y
    ·subst e;simp
    ·rw[zzr0 e,zzr0 fun z=>e (dX z)]
   rw[hd];exact ih (DT.depths_get hl ex) (DT.depths_get hm ey) (by show A.units+1+d<cLine;omega) hx hy
  cases x with
  |k a =>
   cases y with
   |k b=>exact leaves hx hy
   |t l =>
    obtain⟨b,i,rfl,hi,_⟩:=hy;rw[zzr0 (by intro z;cases z)];exact(kt (by omega) hx hi).1
   |s l =>
    obtain⟨b,i,rfl,hi,_⟩:=hy;rw[zzr0 (by intro z;cases z)];exact(kl (by omega) hx hi).1
  |t l =>
   have hl:DT.depths l<=d:=by have:DT.depths l+1<=d+1:=hdx;omega
   have hx0:=hx;obtain⟨a,i,rfl,hi,hx⟩:=hx;cases y with
   |k b =>
    rw[zzr0 (by intro z;cases z)];exact(kt (by omega) hy hi).2
   |s m =>
    obtain⟨b,j,rfl,hj,_⟩:=hy;rw[zzr0 (by intro z;cases z)];exact bP.tuple_list hi hj (by omega)
   |t m =>
    have hm:DT.depths m<=d:=by have:DT.depths m+1<=d+1:=hdy;omega
    have hy0:=hy;obtain⟨b,j,rfl,hj,hy⟩:=hy;by_cases hab:a=b
    ·subst hab;have e:DT.t l=DT.t m:=rq.inj _ (aN _) hx0 hy0;rw[zzr1 e];exact bP.same _
    ·have r:=SeqAt.RcAt.tuples (A:=A) hi hj (by omega) (items hl hm hx hy);have li:=hx.length;have lj:=hy.length;simp only[qd]at li lj;have q:((ng (min i.size j.size)).all (fun n=>decide (l[n]?=m[n]?)) && i.size==j.size)=decide (DT.t l=DT.t m):=by
      by_cases e:l.length=m.length
      ·have e1:i.size=j.size:=by omega
       rw[<-e1,Nat.min_self,<-li,fV e];by_cases e2:l=m
       ·subst e2;simp
       ·have:¬(DT.t l=DT.t m):=fun z=>e2 (by injection z);rw[zzr0 this,zzr0 e2];rfl
      ·have e1:(i.size==j.size)=false:=by simp;omega
       have:¬(DT.t l=DT.t m):=fun z=>e (by injection z with z;rw[z]);rw[e1,zzr0 this,vC]
     rw[q]at r;exact .of_refs hab r
  |s l =>
   have hl:DT.depths l<=d:=by have:DT.depths l+1<=d+1:=hdx;omega
   have hx0:=hx;obtain⟨a,i,rfl,hi,hx⟩:=hx;cases y with
   |k b =>
    rw[zzr0 (by intro z;cases z)];exact(kl (by omega) hy hi).2
   |t m =>
    obtain⟨b,j,rfl,hj,_⟩:=hy;rw[zzr0 (by intro z;cases z)];exact bP.list_tuple hi hj (by omega)
   |s m =>
    have hm:DT.depths m<=d:=by have:DT.depths m+1<=d+1:=hdy;omega
    have hy0:=hy;obtain⟨b,j,rfl,hj,hy⟩:=hy;by_cases hab:a=b
    ·subst hab;have e:DT.s l=DT.s m:=rq.inj _ (aN _) hx0 hy0;rw[zzr1 e];exact bP.same _
    ·have li:=hx.length;have lj:=hy.length;simp only[qd]at li lj;by_cases e:l.length=m.length
     ·have r:=SeqAt.RcAt.lists (A:=A) hi hj (by omega) (by omega) (items hl hm hx hy);rw[<-li,fV e]at r;have q:decide (l=m)=decide (DT.s l=DT.s m):=by
       by_cases e2:l=m
       ·subst e2;simp
       ·have:¬(DT.s l=DT.s m):=fun z=>e2 (by injection z);rw[zzr0 this,zzr0 e2]
      rw[q]at r;exact .of_refs hab r
     ·have:¬(DT.s l=DT.s m):=fun z=>e (by injection z with z;rw[z]);rw[zzr0 this];exact .of_refs hab (SeqAt.RcAt.lists_lengths hi hj (by simp;omega) (by omega))
end
theorem BM(a b:d9):decide (DT.k a=DT.k b)=decide (a=b):=by
 by_cases e:a=b
 ·subst e;simp
 ·rw[zzr0 e,zzr0 fun z=>e (by injection z)]
theorem Hi(l m:List DT):decide (DT.t l=DT.t m)=decide (l=m):=by
 by_cases e:l=m
 ·subst e;simp
 ·rw[zzr0 e,zzr0 fun z=>e (by injection z)]
theorem Hj(l m:List DT):decide (DT.s l=DT.s m)=decide (l=m):=by
 by_cases e:l=m
 ·subst e;simp
 ·rw[zzr0 e,zzr0 fun z=>e (by injection z)]
theorem Fi(x y:DT):decide ((some x:Option DT)=some y)=decide (x=y):=by
 by_cases e:x=y
 ·subst e;simp
 ·rw[zzr0 e,zzr0 fun z=>e (dX z)]
section
variable{A:Around}{s:Shared}
theorem og{d:Nat}(hu:A.units+1+d<cLine){l m:List DT}{i j:Array Value}(hl:DT.depths l<=d)(hm:DT.depths m<=d)(hi:DAts s.heap l i.toList)(hj:DAts s.heap m j.toList):
  ∀n (h1:n<i.size) (h2:n<j.size),bP A.in1 s i[n] j[n] (decide (l[n]?=m[n]?)):=by
 intro n h1 h2;obtain⟨x,ex,hx⟩:=hi.get (i:=n) (v:=i[n]) (by simp[h1]);obtain⟨y,ey,hy⟩:=hj.get (i:=n) (v:=j[n]) (by simp[h2]);rw[ex,ey,Fi];exact Hf d (DT.depths_get hl ex) (DT.depths_get hm ey) hu hx hy
theorem A4{l m:List DT}{i j:Array Value}(hi:DAts s.heap l i.toList)(hj:DAts s.heap m j.toList):((ng (min i.size j.size)).all (fun n=>decide (l[n]?=m[n]?)) && i.size==j.size)=decide (l=m):=by
 have li:=hi.length;have lj:=hj.length;simp only[qd]at li lj;by_cases e:l.length=m.length
 ·have e1:i.size=j.size:=by omega
  rw[<-e1,Nat.min_self,<-li,fV e];simp
 ·have e1:(i.size==j.size)=false:=by simp;omega
  rw[e1,zzr0 fun z=>e (by rw[z]),vC]
theorem JA{x y:DT}{u v:Value}(dx:x.depth<=8)(dy:y.depth<=8)(hu:A.units+16<cLine)(hx:rq s.heap x u)(hy:rq s.heap y v):SeqAt.RcAt A s u v (decide (x=y)):=by
 cases x with
 |k a =>
  rcases ar (show cP a u=true from hx)with⟨i,t,rfl,rfl⟩|⟨i,t,rfl,rfl⟩
  ·cases y with
   |k b =>
    rw[BM];rcases ar (show cP b v=true from hy)with⟨j,t',rfl,rfl⟩|⟨j,t',rfl,rfl⟩
    ·rw[wK];exact SeqAt.RcAt.int_int i t j t'
    ·rw[wJ];exact SeqAt.RcAt.int_str i t j t'
   |t m=>obtain⟨b,j,rfl,hj,_⟩:=hy;rw[zzr0 (by intro z;cases z)];exact SeqAt.RcAt.int_tuple i t hj (by omega)
   |s m=>obtain⟨b,j,rfl,hj,_⟩:=hy;rw[zzr0 (by intro z;cases z)];exact SeqAt.RcAt.int_list i t hj (by omega)
  ·cases y with
   |k b =>
    rw[BM];rcases ar (show cP b v=true from hy)with⟨j,t',rfl,rfl⟩|⟨j,t',rfl,rfl⟩
    ·rw[wI];exact SeqAt.RcAt.str_int i t j t'
    ·rw[wH];have:=SeqAt.RcAt.str_str (A:=A) (s:=s) i t j t';rwa[show(i==j)=decide (i=j)from by by_cases e:i=j<;>simp[e]]at this
   |t m=>obtain⟨b,j,rfl,hj,_⟩:=hy;rw[zzr0 (by intro z;cases z)];exact SeqAt.RcAt.str_tuple i t hj (by omega)
   |s m=>obtain⟨b,j,rfl,hj,_⟩:=hy;rw[zzr0 (by intro z;cases z)];exact SeqAt.RcAt.str_list i t hj (by omega)
 |t l =>
  obtain⟨a,i,rfl,hi,hx⟩:=hx;have dl:DT.depths l<=7:=by have:DT.depths l+1<=8:=dx;omega
  cases y with
  |k b =>
   rw[zzr0 (by intro z;cases z)];rcases ar (show cP b v=true from hy)with⟨j,t',rfl,rfl⟩|⟨j,t',rfl,rfl⟩
   ·exact SeqAt.RcAt.tuple_int j t' hi (by omega)
   ·exact SeqAt.RcAt.tuple_str j t' hi (by omega)
  |t m =>
   obtain⟨b,j,rfl,hj,hy⟩:=hy;have dm:DT.depths m<=7:=by have:DT.depths m+1<=8:=dy;omega
   have r:=SeqAt.RcAt.tuples (A:=A) hi hj (by omega) (og (by omega) dl dm hx hy);rw[A4 hx hy]at r;rw[Hi];exact r
  |s m=>obtain⟨b,j,rfl,hj,_⟩:=hy;rw[zzr0 (by intro z;cases z)];exact SeqAt.RcAt.tuple_list hi hj (by omega)
 |s l =>
  obtain⟨a,i,rfl,hi,hx⟩:=hx;have dl:DT.depths l<=7:=by have:DT.depths l+1<=8:=dx;omega
  cases y with
  |k b =>
   rw[zzr0 (by intro z;cases z)];rcases ar (show cP b v=true from hy)with⟨j,t',rfl,rfl⟩|⟨j,t',rfl,rfl⟩
   ·exact SeqAt.RcAt.list_int j t' hi (by omega)
   ·exact SeqAt.RcAt.list_str j t' hi (by omega)
  |t m=>obtain⟨b,j,rfl,hj,_⟩:=hy;rw[zzr0 (by intro z;cases z)];exact SeqAt.RcAt.list_tuple hi hj (by omega)
  |s m =>
   obtain⟨b,j,rfl,hj,hy⟩:=hy;have dm:DT.depths m<=7:=by have:DT.depths m+1<=8:=dy;omega
   have li:=hx.length;have lj:=hy.length;simp only[qd]at li lj;rw[Hj];by_cases e:l.length=m.length
   ·have r:=SeqAt.RcAt.lists (A:=A) hi hj (by omega) (by omega) (og (by omega) dl dm hx hy);rw[<-li,fV e]at r;exact r
   ·rw[zzr0 fun z=>e (by rw[z])];exact SeqAt.RcAt.lists_lengths hi hj (by simp;omega) (by omega)
theorem JB{x y:DT}{u v:Value}(dx:x.depth<=8)(dy:y.depth<=8)(hu:A.units+16<cLine)(hx:rq s.heap x u)(hy:rq s.heap y v):SeqAt.RcNeAt A s u v (!decide (x=y)):=by
 cases x with
 |k a =>
  rcases ar (show cP a u=true from hx)with⟨i,t,rfl,rfl⟩|⟨i,t,rfl,rfl⟩
  ·cases y with
   |k b =>
    rw[BM];rcases ar (show cP b v=true from hy)with⟨j,t',rfl,rfl⟩|⟨j,t',rfl,rfl⟩
    ·rw[wK];exact SeqAt.RcNeAt.int_int i t j t'
    ·rw[wJ];exact SeqAt.RcNeAt.int_str i t j t'
   |t m=>obtain⟨b,j,rfl,hj,_⟩:=hy;rw[zzr0 (by intro z;cases z)];exact SeqAt.RcNeAt.int_tuple i t hj (by omega)
   |s m=>obtain⟨b,j,rfl,hj,_⟩:=hy;rw[zzr0 (by intro z;cases z)];exact SeqAt.RcNeAt.int_list i t hj (by omega)
  ·cases y with
   |k b =>
    rw[BM];rcases ar (show cP b v=true from hy)with⟨j,t',rfl,rfl⟩|⟨j,t',rfl,rfl⟩
    ·rw[wI];exact SeqAt.RcNeAt.str_int i t j t'
    ·rw[wH];have:=SeqAt.RcNeAt.str_str (A:=A) (s:=s) i t j t';rwa[show(i==j)=decide (i=j)from by by_cases e:i=j<;>simp[e]]at this
   |t m=>obtain⟨b,j,rfl,hj,_⟩:=hy;rw[zzr0 (by intro z;cases z)];exact SeqAt.RcNeAt.str_tuple i t hj (by omega)
   |s m=>obtain⟨b,j,rfl,hj,_⟩:=hy;rw[zzr0 (by intro z;cases z)];exact SeqAt.RcNeAt.str_list i t hj (by omega)
 |t l =>
  obtain⟨a,i,rfl,hi,hx⟩:=hx;have dl:DT.depths l<=7:=by have:DT.depths l+1<=8:=dx;omega
  cases y with
  |k b =>
   rw[zzr0 (by intro z;cases z)];rcases ar (show cP b v=true from hy)with⟨j,t',rfl,rfl⟩|⟨j,t',rfl,rfl⟩
   ·exact SeqAt.RcNeAt.tuple_int j t' hi (by omega)
   ·exact SeqAt.RcNeAt.tuple_str j t' hi (by omega)
  |t m =>
   obtain⟨b,j,rfl,hj,hy⟩:=hy;have dm:DT.depths m<=7:=by have:DT.depths m+1<=8:=dy;omega
   have r:=SeqAt.RcNeAt.tuples (A:=A) hi hj (by omega) (og (by omega) dl dm hx hy);rw[A4 hx hy]at r;rw[Hi];exact r
  |s m=>obtain⟨b,j,rfl,hj,_⟩:=hy;rw[zzr0 (by intro z;cases z)];exact SeqAt.RcNeAt.tuple_list hi hj (by omega)
 |s l =>
  obtain⟨a,i,rfl,hi,hx⟩:=hx;have dl:DT.depths l<=7:=by have:DT.depths l+1<=8:=dx;omega
  cases y with
  |k b =>
   rw[zzr0 (by intro z;cases z)];rcases ar (show cP b v=true from hy)with⟨j,t',rfl,rfl⟩|⟨j,t',rfl,rfl⟩
   ·exact SeqAt.RcNeAt.list_int j t' hi (by omega)
   ·exact SeqAt.RcNeAt.list_str j t' hi (by omega)
  |t m=>obtain⟨b,j,rfl,hj,_⟩:=hy;rw[zzr0 (by intro z;cases z)];exact SeqAt.RcNeAt.list_tuple hi hj (by omega)
  |s m =>
   obtain⟨b,j,rfl,hj,hy⟩:=hy;have dm:DT.depths m<=7:=by have:DT.depths m+1<=8:=dy;omega
   have li:=hx.length;have lj:=hy.length;simp only[qd]at li lj;rw[Hj];by_cases e:l.length=m.length
   ·have r:=SeqAt.RcNeAt.lists (A:=A) hi hj (by omega) (by omega) (og (by omega) dl dm hx hy);rw[<-li,fV e]at r;exact r
   ·rw[zzr0 fun z=>e (by rw[z])];exact SeqAt.RcNeAt.lists_lengths hi hj (by simp;omega) (by omega)
end
mutual
def kj(K:Za)(H:Hp):DT->V->Prop
 |.k a,v=>v=kV a
 |.t l,v=>∃b xs,v=.ref b/\b_ K H b xs/\DIns K H l xs
 |.s l,v=>∃b xs,v=.ref b/\aA K H b xs/\DIns K H l xs
def DIns(K:Za)(H:Hp):List DT->List V->Prop
 |[],vs=>vs=[]
 |k::r,vs=>∃v us,vs=v::us/\kj K H k v/\DIns K H r us
end
section
variable{X:Cx}{J6:Zd}{σ:St}{H:Hp}{s:Shared}
theorem mO(I:Inv X J6 σ H s):∀(d:Nat) {k:DT}{v:V}{u:Value},k.depth<=d->kj X.K H k v->RelV v u->rq s.heap k u:=by
 have key:∀(d:Nat) (ih:∀{k:DT}{v:V}{u:Value},k.depth<=d->kj X.K H k v->RelV v u->rq s.heap k u) (ks:List DT) (vs:List V) (us:Zf),DT.depths ks<=d->DIns X.K H ks vs->bg vs us->DAts s.heap ks us:=by
  intro d ih ks
  induction ks with
  |nil =>
   intro vs us _ hx r;have e:vs=[]:=hx;subst e;cases r
   rfl
  |cons k ks ihl =>
   intro vs us hd hx r;obtain⟨v,vs',rfl,h1,h2⟩:=hx;cases r with
   |@cons _ u _ us' r1 r2 =>
    have hd':max k.depth (DT.depths ks)<=d:=hd;exact⟨u,us',rfl,ih (by omega) h1 r1,ihl vs' us' (by omega) h2 r2⟩
 intro d
 induction d with
 |zero =>
  intro k v u hd hx r;cases k with
  |t l=>exact absurd hd (by show ¬(DT.depths l+1<=0);omega)
  |s l=>exact absurd hd (by show ¬(DT.depths l+1<=0);omega)
  |k b =>
   have e:v=kV b:=hx;subst e;exact kb (P:=X.prog) (w:=X.w) r
 |succ d ih =>
  intro k v u hd hx r;cases k with
  |k b =>
   have e:v=kV b:=hx;subst e;exact kb (P:=X.prog) (w:=X.w) r
  |t l =>
   obtain⟨b,xs,rfl,hb,hi⟩:=hx;cases(show u=Value.ref b from r);obtain⟨its,rv,ht,_⟩:=I.tuple hb;exact⟨b,its.toArray,rfl,ht,by simpa using key d (fun h1=>ih h1) l xs its (by have:DT.depths l+1<=d+1:=hd;omega) hi rv⟩
  |s l =>
   obtain⟨b,xs,rfl,hb,hi⟩:=hx;cases(show u=Value.ref b from r);obtain⟨its,rv,ht,_⟩:=I.list hb;exact⟨b,its.toArray,rfl,ht.isList,by simpa using key d (fun h1=>ih h1) l xs its (by have:DT.depths l+1<=d+1:=hd;omega) hi rv⟩
theorem oh(I:Inv X J6 σ H s):∀{ks:List DT}{vs:List V}{us:Zf},DT.depths ks<=8->DIns X.K H ks vs->bg vs us->DAts s.heap ks us
 |[],vs,us,_,hx,r=>by
  have e:vs=[]:=hx;subst e;cases r
  rfl
 |k::ks,vs,us,hd,hx,r=>by
  obtain⟨v,vs',rfl,h1,h2⟩:=hx;cases r with
  |@cons _ u _ us' r1 r2 =>
   have hd':max k.depth (DT.depths ks)<=8:=hd;exact⟨u,us',rfl,mO I 8 (by omega) h1 r1,oh I (by omega) h2 r2⟩
end
def um(K:Za):R2:=fun x y H Q=>∃d e:DT,kj K H d x/\kj K H e y/\d.depth<=8/\e.depth<=8/\Q (.bl (decide (d=e))) H
def F0(K:Za):R2:=fun x y H Q=>∃d e:DT,kj K H d x/\kj K H e y/\d.depth<=8/\e.depth<=8/\Q (.bl (!decide (d=e))) H
section
variable{X:Cx}
theorem k6(hu:X.A.units+16<cLine):ml X (eB .Eq) (um X.K):=by
 intro J6 s σ H x y v u Q I rx ry h;obtain⟨d,e,hx,hy,dx,dy,q⟩:=h;exact JA dx dy hu (mO I 8 dx hx rx) (mO I 8 dy hy ry) X.prog X.w X.xe _ ⟨.bl _,H,I,rfl,q⟩
theorem Et(hu:X.A.units+16<cLine):ml X (eB .NotEq) (F0 X.K):=by
 intro J6 s σ H x y v u Q I rx ry h;obtain⟨d,e,hx,hy,dx,dy,q⟩:=h;exact JB dx dy hu (mO I 8 dx hx rx) (mO I 8 dy hy ry) X.prog X.w X.xe _ ⟨.bl _,H,I,rfl,q⟩
def nR(K:Za)(neg:Bool):R2:=fun x y H Q=>∃(d:DT) (ds:List DT) (p:Addr) (xs:List V),kj K H d x/\y=.ref p/\(aA K H p xs∨b_ K H p xs)/\DIns K H ds xs/\d.depth<=8/\DT.depths ds<=8/\Q (.bl (if neg then !decide (d∈ds)else decide (d∈ds))) H
open Classical in
theorem oo{h:Heap}{d:DT}(d8:d.depth<=8):∀{ds:List DT}{us:Zf},DAts h ds us->DT.depths ds<=8->us.any (fun u=>@decide (rq h d u) (propDecidable _))=decide (d∈ds)
 |[],us,e,_=>by
  have e':us=[]:=e;subst e'
  rfl
 |x::ds,us,e,hd=>by
  obtain⟨u,us',rfl,h1,h2⟩:=e;have hd':max x.depth (DT.depths ds)<=8:=hd;rw[vN,oo d8 h2 (by omega)];by_cases q:d=x
  ·subst q;simp[h1]
  ·have n:¬rq h d u:=fun z=>q (rq.inj 8 d8 z h1);simp[n,q]
open Classical in
theorem sX{A:Around}{s:Shared}{d:DT}{v:Value}(d8:d.depth<=8)(hu:A.units+8<cLine)(hd:rq s.heap d v):∀{ds:List DT}{us:Zf},DAts s.heap ds us->DT.depths ds<=8->∀u∈us,bP A s u v (@decide (rq s.heap d u) (propDecidable _))
 |[],us,e,_,u,hm=>by
  have e':us=[]:=e;subst e';cases hm
 |x::ds,us,e,h8,u,hm=>by
  obtain⟨u',us',rfl,h1,h2⟩:=e;have h8':max x.depth (DT.depths ds)<=8:=h8;rcases bw.mp hm with rfl|hm
  ·have q:=Hf 8 (A:=A) (by omega) d8 hu h1 hd;by_cases z:x=d
   ·subst z;rw[zzr1 h1];rwa[zzr1 rfl]at q
   ·have n:¬rq s.heap d u:=fun w=>z (rq.inj 8 d8 w h1).symm;rw[zzr0 n];rwa[zzr0 z]at q
  ·exact sX d8 hu hd h2 (by omega) u hm
theorem mK(hu:X.A.units+16<cLine):ml X (eB .In) (nR X.K false):=by
 intro J6 s σ H x y v u Q I rx ry h;obtain⟨d,ds,p,xs,hx,rfl,hq,hds,d8,ds8,q⟩:=h;cases ry;have hd:=mO I 8 d8 hx rx;have hu':X.A.in1.units+8<cLine:=by show X.A.units+1+8<cLine;omega
 rcases hq with hq|hq
 ·obtain⟨its,r,pl,hz⟩:=I.list hq;have hi:=oh I ds8 hds r;refine SeqAt.in_listAt _ pl.isList (fun w hw=>sX d8 hu' hd hi ds8 w (by simpa using hw)) ⟨.bl _,H,I,rfl,?_⟩;rw[vB,oo d8 hi ds8];exact q
 ·obtain⟨its,r,pl,hz⟩:=I.tuple hq;have hi:=oh I ds8 hds r;refine SeqAt.in_tupleAt _ pl (fun w hw=>sX d8 hu' hd hi ds8 w (by simpa using hw)) ⟨.bl _,H,I,rfl,?_⟩;rw[vB,oo d8 hi ds8];exact q
theorem jA(hu:X.A.units+16<cLine):ml X (eB .NotIn) (nR X.K true):=by
 intro J6 s σ H x y v u Q I rx ry h;obtain⟨d,ds,p,xs,hx,rfl,hq,hds,d8,ds8,q⟩:=h;cases ry;have hd:=mO I 8 d8 hx rx;have hu':X.A.in1.units+8<cLine:=by show X.A.units+1+8<cLine;omega
 rcases hq with hq|hq
 ·obtain⟨its,r,pl,hz⟩:=I.list hq;have hi:=oh I ds8 hds r;refine SeqAt.notIn_listAt _ pl.isList (fun w hw=>sX d8 hu' hd hi ds8 w (by simpa using hw)) ⟨.bl _,H,I,rfl,?_⟩;rw[vB,oo d8 hi ds8];exact q
 ·obtain⟨its,r,pl,hz⟩:=I.tuple hq;have hi:=oh I ds8 hds r;refine SeqAt.notIn_tupleAt _ pl (fun w hw=>sX d8 hu' hd hi ds8 w (by simpa using hw)) ⟨.bl _,H,I,rfl,?_⟩;rw[vB,oo d8 hi ds8];exact q
end
def mP(z:Str)(lo hi:Option Int):Str:=⟨((z.cps.toList.drop (HT.sIx z.length 0 lo)).take (HT.sIx z.length z.length hi-HT.sIx z.length 0 lo)).toArray⟩
theorem sliceRange_one(a b:Nat):sliceRange (a:Int) (b:Int) 1=(ng (b-a)).map (fun k=>a+k):=by
 unfold sliceRange;simp only[show(1:Int) > 0 from by decide,if_true];by_cases h:(a:Int)<(b:Int)
 ·have e:(if(a:Int)<(b:Int)then((b:Int)-a+1-1) / 1 else 0).toNat=b-a:=by rw[if_pos h];omega
  rw[e];exact List.map_congr_left fun k _=>by omega
 ·have e:(if(a:Int)<(b:Int)then((b:Int)-a+1-1) / 1 else 0).toNat=b-a:=by rw[if_neg h];omega
  rw[e];exact List.map_congr_left fun k _=>by omega
theorem yW(v:Option Int)(n d:Nat):(match v with|none=>(d:Int)|some i=>max 0 (min (if i<0 then i+(n:Int)else i) (n:Int)))=((HT.sIx n d v:Nat):Int):=by
 cases v with
 |none=>rfl
 |some i =>
  rw[<-HT.clip_eq i n d];dsimp only;by_cases h:i<0
  ·rw[if_pos h,if_pos h];omega
  ·rw[if_neg h,if_neg h];omega
theorem nL(lo hi:Option Int)(n:Nat):rR lo hi 1 n=(ng (HT.sIx n n hi-HT.sIx n 0 lo)).map (fun k=>HT.sIx n 0 lo+k):=by
 have e1:=yW lo n 0;have e2:=yW hi n n;rw[<-sliceRange_one,<-e1,<-e2];unfold rR;simp only[show(1:Int) > 0 from by decide,if_true];cases lo<;>cases hi<;>rfl
theorem Cj(z:Str)(lo hi:Option Int):Txt.slice z lo hi=mP z lo hi:=by
 have ha:HT.sIx z.length 0 lo<=z.length:=HT.sIx_le _ _ (bR _) _;have hb:HT.sIx z.length z.length hi<=z.length:=HT.sIx_le _ _ (aN _) _;have hlen:z.cps.toList.length=z.length:=by simp[Str.length]
 have pick:(rR lo hi 1 z.length).filterMap (z.cps[·]?)=(z.cps.toList.drop (HT.sIx z.length 0 lo)).take (HT.sIx z.length z.length hi-HT.sIx z.length 0 lo):=by
  rw[nL];generalize HT.sIx z.length 0 lo=a at *;generalize HT.sIx z.length z.length hi=b at *;have h:=StrLaws.picks z.cps.toList (b-a) a (by omega);simpa using h
 unfold Txt.slice;by_cases h:((1:Int)==1 && (rR lo hi 1 z.length).length==z.length)=true
 ·rw[if_pos h];have hl:(rR lo hi 1 z.length).length=z.length:=by simpa using h
  rw[nL,am,List.length_range]at hl;unfold mP;have a0:HT.sIx z.length 0 lo=0:=by omega
  have bn:HT.sIx z.length z.length hi-HT.sIx z.length 0 lo=z.cps.toList.length:=by omega
  rw[bn,a0,mq,cZ]
 ·rw[if_neg h];unfold mP;rw[pick]
section
variable{X:Cx}
def ul:V->Option Int->Option Int->Hp->VK->Prop:=fun x lo hi H Q=>∃z,x=.str z/\z.length<=aj/\Q (.str (mP z lo hi)) H
theorem jT:SlR X ul:=by
 intro J6 s σ H x v vl vu lo hi sl Q I rx hs pl pu h;obtain⟨z,rfl,hz,q⟩:=h;obtain⟨t,rfl⟩:=rx;rw[<-Cj]at q;refine⟨"str",_,F.slot_str_getitem.lookup,typeIs_str _ _ _,?_⟩;obtain⟨o,ho,hc,hd⟩:=hs;have fin:∀(l u:Option (Int×Tok)),vl=partValue l->vu=partValue u->lo=l.map (·.1)->hi=u.map (·.1)->wpAny (model X.prog X.w) X.A (my (.str z t) (.ref sl)) (EP X J6 σ Q) X.xe s:=by
  rintro l u rfl rfl rfl rfl;refine wpAny_getItem_str_slice (l:=l) (u:=u) (st:=none) ⟨o,ho,hc,hd⟩ rfl (post_val_or_str ⟨bj (Txt.slice_le z _ _) hz,fun t' k=>⟨.str _,H,I.tok _,⟨_,rfl⟩,q⟩⟩)
 cases pl with
 |none =>
  cases pu with
  |none=>exact fin none none rfl rfl rfl rfl
  |int j u=>exact fin none (some (j,u)) rfl rfl rfl rfl
 |int i t' =>
  cases pu with
  |none=>exact fin (some (i,t')) none rfl rfl rfl rfl
  |int j u=>exact fin (some (i,t')) (some (j,u)) rfl rfl rfl rfl
def uS(K:Za):V->List V->Hp->VK->Prop:=fun x vs H Q=>∃z p ys,x=.str z/\vs=[.ref p]/\aA K H p (ys.map V.str)/\(ys.map (·.length)).sum+ys.length * z.length<=16777216/\Q (.str (mo z ys)) H
theorem FS{ys:Zb}:∀{us:Zf},bg (ys.map V.str) us->StrsAre us ys:=by
 induction ys with
 |nil=>intro us r;cases r;exact .nil
 |cons y ys ih =>
  intro us r;cases r with
  |cons r1 r2 =>
   obtain⟨t,rfl⟩:=r1;exact .cons _ _ (ih r2)
theorem rg:JK X "str.join" (uS X.K):=by
 intro J6 s σ H x vs v us Q I rx rv h;obtain⟨z,p,ys,rfl,rfl,hq,hz,q⟩:=h;obtain⟨t,rfl⟩:=rx;obtain⟨u,rfl,ru⟩:=rv.one;cases ru;obtain⟨its,r,pl,_⟩:=I.list hq;exact join_list pl.isList (by simpa using FS r) hz fun t' k=>⟨.str _,H,I.tok _,⟨_,rfl⟩,q⟩
end
section
variable{X:Cx}
def TyX(K:Za)(H:Hp)(x:V)(t:Value):Prop:=mR K H x t∨(∃a xs,x=.ref a/\t=.type "tuple"/\b_ K H a xs)∨(∃a xs,x=.ref a/\t=.type "list"/\aA K H a xs)
theorem Ak{J6:Zd}{σ:St}{H:Hp}{s:Shared}{A:Around}{E:Zc}{Q:Zc}{c:Value}{b:Bool}{x:V}{u t:Value}(I:Inv X J6 σ H s)(rx:RelV x u)(ty:TyX X.K H x t)(e:xL X.K t c=some b)(h:∀tk,Q (.bool b) { s with toks:=tk }):
  wpAny (model X.prog X.w) A (call (.builtin "isinstance") [u,c]) Q E s:=by
 rcases ty with ty|⟨a,xs,rfl,rfl,q⟩|⟨a,xs,rfl,rfl,q⟩
 ·exact CF I rx ty e h
 ·cases(show u=Value.ref a from rx);obtain⟨its,rv,p,hz⟩:=I.tuple q;obtain⟨o,h1,h2,_⟩:=p;exact jq PySem.W.kitx_tuple I.kIn ⟨o,h1,h2⟩ e (fun z=>nomatch z) h
 ·cases(show u=Value.ref a from rx);obtain⟨its,rv,p,hz⟩:=I.list q;obtain⟨o,n,h1,h2,_⟩:=p;exact jq PySem.W.kitx_list I.kIn ⟨o,h1,h2⟩ e (fun z=>nomatch z) h
theorem d5:gS X (.builtin "isinstance") (fun xs H Q=>∃x c t b,xs=[x,.ty c]/\TyX X.K H x t/\xL X.K t (.type c)=some b/\Q (.bl b) H):=by
 intro J6 s σ H xs us Q I r h;obtain⟨x,c,t,b,rfl,ty,hk,q⟩:=h;obtain⟨u,v,rfl,ru,rv⟩:=vals2 r;cases(show v=Value.type c from rv);exact Ak I ru ty hk fun tk=>⟨.bl b,H,I.tok _,rfl,q⟩
theorem IE{bs:List Bool}{us:Zf}(r:bg (bs.map V.bl) us){i:Nat}{v:Value}(h:us[i]?=some v):v=.bool ((bs[i]?).getD false)/\i<bs.length:=by
 have hi:i<us.length:=(db.mp h).1;have hl:=r.length;rw[am]at hl;have hb:i<bs.length:=by omega
 obtain⟨u,hu,ru⟩:=r.get (i:=i) (x:=V.bl bs[i]) (by simp[hb]);rw[h]at hu;cases hu;refine⟨?_,hb⟩;rw[fh hb];exact ru
theorem xw(bs:List Bool):((ng bs.length).all fun i=>(bs[i]?).getD false)=bs.all id:=by
 induction bs with
 |nil=>rfl
 |cons b bs ih =>
  rw[cw,List.range_succ_eq_map,rQ,mn,rQ,<-ih]
  rfl
theorem ja(hc:X.calm=true):gS X (.builtin "all") (fun xs H Q=>∃(p:Addr) (bs:List Bool),xs=[.ref p]/\aA X.K H p (bs.map V.bl)/\Q (.bl (bs.all id)) H):=by
 intro J6 s σ H xs us Q I r h;obtain⟨p,bs,rfl,hq,q⟩:=h;obtain⟨u,rfl,ru⟩:=vals1 r;cases ru;obtain⟨its,rv,pl,hz⟩:=I.list hq;obtain⟨o,n,ho,_⟩:=id pl;have hl:=rv.length;rw[am]at hl;refine call_all_walk (AS pl.isList ?_);refine⟨s.heap.objs.size,_,_,_,_,_,fun i=>(bs[i]?).getD false,rfl,Walks.list (prog:=X.prog) (w:=X.w) (A:=X.A.in1) (I.ok.hd hc) s.heap.objs.size p (cx (aM ho)) its.toArray,⟨⟨_,dz _ rfl,rfl,rfl⟩,pl.isList.push _⟩,?_,?_⟩
 ·intro i v s' Q' E' hv hq';obtain⟨e,_⟩:=IE rv (i:=i) (v:=v) (by simpa using hv);rw[e];exact nh hq'
 ·intro h' tk hk;have I':Inv X J6 σ H { s with heap:=h',toks:=tk }:=I.kept fun b o e=>hk b o (by simp;exact cx (aM e)) (bb _ e);rw[cr,<-hl,xw];exact⟨.bl _,H,I',rfl,q⟩
theorem sT:ml X (eB .In) (fun x y H Q=>∃c j,x=.str ⟨#[c]⟩/\y=.str j/\Q (.bl (decide (c∈j.cps.toList))) H):=by
 intro J6 s σ H x y v u Q I rx ry h;obtain⟨c,j,rfl,rfl,q⟩:=h;rw[<-StrLaws.found_one]at q;exact Cw J6 s σ H _ _ v u Q I rx ry ⟨_,_,rfl,rfl,q⟩
theorem tM(hc:X.calm=true):gS X (.type "list") (fun xs H Q=>∃(d:Addr) (kvs:List (d9×V)),xs=[.ref d]/\Rd H d (.dK kvs)/\∀l,H l=none->Q (.ref l) (upd H l (.lst (kvs.map fun kv=>kV kv.1)))):=by
 intro J6 s σ H xs us Q I r h;obtain⟨d,kvs,rfl,hd,q⟩:=h;obtain⟨u,rfl,ru⟩:=vals1 r;cases ru;obtain⟨z,hsys,vs,rel,dd⟩:=qq I.hok hd;obtain⟨ep,hat⟩:=dd.dictAt;have hl:=rel.length;refine PySem.W.kdl_call (PySem.W.kdl_dict (knd:=bX X.prog X.w) (kvs:=vs) (ep:=ep) hsys) (I.ok.hd hc) hat (by rw[<-hl];exact z) fun h' tk acc c hk hD hacc=>?_;have hv:bg (kvs.map fun kv=>kV kv.1) acc.toList:=by
  obtain⟨hn,hP⟩:=hacc;have key:∀(a:Zf) (ks:List (d9×V)) (ws:List (d9×Value)),KV ks ws->a.length=ws.length->(∀(j:Nat) (v:Value),a[j]?=some v->∃k x,ws[j]?=some (k,x)/\(bX X.prog X.w).is k v=true)->bg (ks.map fun kv=>kV kv.1) a:=by
   intro a ks ws rl
   induction rl generalizing a with
   |nil=>intro ha _;cases a with
    |nil=>exact .nil
    |cons _ _=>cases ha
   |@cons p w' ps ws' hp _ ih =>
    intro ha hj;cases a with
    |nil=>cases ha
    |cons v a =>
     obtain⟨k,x,e,hk⟩:=hj 0 v rfl;have e':w'=(k,x):=by simpa using e
     refine .cons ?_ (ih a (by simpa using ha) fun j v hv=>by simpa using hj (j+1) v (by simpa using hv));have ek:p.1=k:=by rw[hp.1,e']
     show RelV (kV p.1) v;rw[ek];rcases ar (show cP k v=true from hk)with⟨i,t,rfl,rfl⟩|⟨i,t,rfl,rfl⟩
     ·exact⟨t,rfl⟩
     ·exact⟨t,rfl⟩
  exact key acc.toList kvs vs rel (by rw[qd];exact hn) fun j v hv=>hP j v (by rw[<-Array.getElem?_toList];exact hv)
 refine⟨.ref s.heap.objs.size,_,I.laid (o:=.lst (kvs.map fun kv=>kV kv.1)) hk (aN _) ⟨by rw[am];exact z,acc.toList,c,hv,by rw[Array.toArray_toList];exact hD⟩,rfl,q _ I.fresh⟩
end
section
variable{prog:bB}{w:World}{K:Type}[DecidableEq K]{knd:HeapKind prog w K}{A:Around}{E:Zc}{s:Shared}
theorem sh{d a:Addr}{xs:List (K×Addr×Value)}{k:K}{v:Value}{Q:Zc}(hu:knd.room A)(hkey:knd.is s.heap k a)(hm:s.heap.DictOfH knd d xs)
  (there:∀p,atKey xs k=some p->Q p.2 { s with toks:=s.toks+knd.draws k })
  (new:atKey xs k=none->∀h',h'.DictOfH knd d (xs++[(k,a,v)])->js d s.heap h'->Q v { s with heap:=h',toks:=s.toks+knd.draws k })
  (hsz:xs.length<=aj):wpAny (model prog w) A (dictSetDefault d (.ref a) v) Q E s:=by
 obtain⟨o,es,ep,ho,hc,hd,he,his,hn⟩:=hm;unfold dictSetDefault
 try with_reducible refine kE ?_
 refine ao (knd.pyHash hu hkey ?_);refine ao (wpAny_dictFind_heap (s:={ s with toks:=s.toks+knd.draws k }) hu hkey ho hd he his hn ?_ ?_)
 ·intro hno;have hnot:k∉xs.map (·.1):=not_mem_keys_of_get hno;refine ao (qh (ao (wpAny_updateDictKeys (hz:=by have e:=size_of_entries he;omega) (s:={ s with toks:=s.toks+knd.draws k }) ho hd (a_ (new (atKey_none_of_get hno) _ ⟨_,_,ep+1,g8 _ ho (Obj.isFreed_of_dict (Obj.data_mapDictKeys hd _)),
   hc.mapDictKeys _,Obj.data_mapDictKeys hd _,?_,?_,?_⟩ (rT ..))))))
  ·simp[he,entryOfKey]
  ·intro x hx;rcases bJ.mp hx with hx|hx
   ·exact knd.keeps (his x hx) ho hd (rT ..)
   ·simp only[List.mem_singleton]at hx;subst hx;exact knd.keeps hkey ho hd (rT ..)
  ·rw[aQ,fG];refine⟨hn,by simp,?_⟩;intro x hx y hy;simp only[bf,List.map_nil,List.mem_singleton]at hy;subst hy;exact fun e=>hnot (e▸hx)
 ·intro j p hj;refine ao (wpAny_dictEntries (s:={ s with toks:=s.toks+knd.draws k }) ho hd ?_);rw[entry_at he j,hj];exact ao (qh (a_ (there p (atKey_of_get hn hj))))
theorem nY(knd:HeapKind prog w K)(d a:Addr)(hd:(d==jt)=false)(dflt:Value):
  MeetsIn prog w (cO.«dict.setdefault» ⟨[.ref d,.ref a,dflt],[]⟩) (fun A R s=>knd.room A.in1/\∃k xs,knd.is s.heap k a/\s.heap.DictOfH knd d xs/\xs.length<=aj /\
   (∀p,atKey xs k=some p->R (.ok (.ret p.2)) { s with toks:=s.toks+knd.draws k }) /\
   (atKey xs k=none->∀h',h'.DictOfH knd d (xs++[(k,a,dflt)])->js d s.heap h'->R (.ok (.ret dflt)) { s with heap:=h',toks:=s.toks+knd.draws k })) :=
 .of_wp fun A R s ⟨hu,k,xs,hkey,hm,hz,h1,h2⟩=>by
  unfold cO.«dict.setdefault»;refine ao ?_;unfold cO.Dict.keyAndDefault;refine ao (wpAny_notOrdered_dict hm.typeIs ?_);show wpAny _ _ (pure (d,Value.ref a,some dflt)) _ _ s;refine a_ ?_;show wpAny _ _ (if(d==jt)=true then _ else(dictSetDefault d (.ref a) dflt >>= _)) _ _ s
  rw[if_neg (by rw[hd];exact jr)];exact ao (sh hu hkey hm (fun p hp=>a_ ⟨p.2,rfl,h1 p hp⟩) (fun hn h' hm' hs'=>a_ ⟨dflt,rfl,h2 hn h' hm' hs'⟩) hz)
end
section
variable{X:Cx}
def Bh:V->List V->Hp->VK->Prop:=fun x vs H Q=>∃(d b:Addr) (kvs:List (TK×V)) (k:TK) (z:V),x=.ref d/\vs=[.ref b,z]/\H d=some (.dT kvs)/\ii H k (.ref b)/\k.depth<=8/\kvs.length<aj /\
 (∀v,d_ kvs k=some v->Q v H)/\(d_ kvs k=none->Q z (upd H d (.dT (kvs++[(k,z)]))))
theorem Cz(hu:X.A.units+16<cLine):JK X "dict.setdefault" Bh:=by
 intro J6 s σ H x vs v us Q I rx rv h;obtain⟨d,b,kvs,k,z,rfl,rfl,hd,hb,h8,hz,q1,q2⟩:=h;cases rx;obtain⟨u,v,rfl,ru,rz⟩:=rv.two;cases ru;obtain⟨_,hsys,xs,rel,dd⟩:=He I.hok I.kIn hd;have hl:kvs.length=xs.length:=Paired.length rel;refine call_meetsIn PySem.F.slot_dict_setdefault dd.typeIs PySem.F.entry_dict_setdefault (PySem.F.args_dict_setdefault_3 _ _ _) (nY (fH X.prog X.w) d b hsys v)
  ⟨io hu,k,xs,Ai I.hok I.kIn (ii.c 8 h8 hb) h8,dd,by omega,fun p hp=>?_,fun hn h' dd' hs=>?_⟩
 ·have e:=rel.val k;rw[hp]at e;cases e2:d_ kvs k with
  |none=>rw[e2]at e;exact e.elim
  |some y =>
   rw[e2]at e;exact⟨y,H,I.tok _,e,q1 y e2⟩
 ·have e:=rel.val k;rw[hn]at e;have e2:d_ kvs k=none:=by
   cases e2:d_ kvs k with
   |none=>rfl
   |some y=>rw[e2]at e;exact e.elim
  obtain⟨o,es,ep,hq,h2,h3,h4,_,h5⟩:=dd';refine⟨z,_,xf (ob:=.dT (kvs++[(k,z)])) I (by rw[hd];exact eg) hs ⟨o,hq⟩ ⟨by rw[bp,List.length_singleton];omega,hsys,_,KT.keeps (kvs:=kvs++[(k,z)]) (xs:=xs++[(k,b,v)]) (vM rel ⟨rfl,ii.c 8 h8 hb,h8,rz⟩) fun c ys ec=>?_,o,es,ep,hq,h2,h3,h4,h5⟩,rz,q2 e2⟩;rw[ai (Ha ec hd (fun z=>nomatch z))];exact ec
end
theorem lm:entryFor table "dict.update.loop"=some cO.«dict.update.loop»:=entryFor_of_fast (by kernel_rfl)
theorem fO:plainId "dict.update.loop"=true:=by decide +kernel
theorem wC:oK (.type "list") "keys"=pure none:=am_miss_of_fast (by decide +kernel)
section
variable{prog:bB}{w:World}{A:Around}{E:Zc}{s:Shared}
theorem CA{a:Addr}{o:Obj}{xs:Array Value}{k:Nat}{Q:Option Value->Shared->Prop}(hx:s.heap.get? a=some o)(hc:o.cls=.type "list")(hdat:o.data=.seq xs k)(hd:o.dict=none)(hA:A.handled=none)
  (h:∀h' tk,(∀b ob,s.heap.get? b=some ob->h'.get? b=some ob)->Q none { s with heap:=h',toks:=tk }):wpAny (model prog w) A (getAttr? (.ref a) "keys") Q E s:=by
 obtain⟨c,dct,dat,sl⟩:=o;simp only at hc hdat hd;subst hc hdat hd;obtain⟨hp,g,d,tk,os⟩:=s;have hT:∀tk',(⟨hp,g,d,tk',os⟩:Shared).TypeIs (.ref a) "list":=fun _=>⟨_,hx,rfl⟩;have f1:=sub_AttributeError;have f3:=F.slot_list_getattribute.lookup;have f4:=F.slot_list_getattribute.bind (.ref a);have f5:=am_list_getattr_none;unfold getAttr? getAttrBy? getAttrBy
 repeat (any_goals (first|assumption|exact hT _|((with_reducible show wpAny _ _ (call (ze "list.__getattribute__") _ _) _ _ _);refine oJ F.slot_list_getattribute (hT _) am_entry_list_getattribute (F.args_list_getattribute_2 _ _) (meets_getattribute_miss_list a xs k sl "keys" _ wC (by decide +kernel) (by decide +kernel)) ⟨hx,hA,fun h' tk' e hx'=>?_⟩)|wp_step))
 obtain⟨t',u',he⟩:=hx'.there;show wpAny _ _ (getattributeRaised _ _ _ _ _ _ _) _ _ _;unfold getattributeRaised hookOrError attributeErrorLeaves
 repeat (any_goals (first|assumption|wp_step))
 all_goals first|exact h _ _ hx'.keeps|trace_state
def AA(h:Heap)(u:Value)(kv:d9×Value):Prop:=∃t ku,u=.ref t/\h.IsTuple t #[ku,kv.2]/\cP kv.1 ku=true
theorem zN{κ:Type}[DecidableEq κ](kvs:List (κ×Value))(k:κ)(v:Value):(stored kvs k v).length<=kvs.length+1:=by
 unfold stored;split
 ·rw[am];omega
 ·rw[bp,List.length_singleton];exact aN _
theorem Dj{R:Result->Shared->Prop}(hh:A.handled=none){D it l:Addr}{items:Array Value}{ps:List (d9×Value)}(hDi:D≠it)(hli:l≠it)(hlD:l≠D)(hps:ps.length=items.size):
  ∀(n i:Nat) (s:Shared) (acc:List (d9×Value)),items.size-i=n->i<=items.size->acc.length+(items.size-i)<=aj->s.heap.IsListIter it l i->s.heap.IsList l items->s.heap.DictOf (bX prog w) D acc ->
   (∀(j:Nat) (u:Value) (kv:d9×Value),items[j]?=some u->ps[j]?=some kv->AA s.heap u kv) ->
   (∀h' tk,h'.DictOf (bX prog w) D (merged acc (ps.drop i))->(∀b o,b≠D->b≠it->s.heap.get? b=some o->h'.get? b=some o)->R (.ok (.ret .none)) { s with heap:=h',toks:=tk }) ->
   zzl83 (model prog w) A (.builtin "dict.update.loop" ⟨[.ref D,.ref it,rawInt i,.none],[]⟩) R s:=by
 intro n
 induction n with
 |zero =>
  intro i s acc hn hi hz hit hl hD hp hR;have e:i=items.size:=by omega
  subst e;refine codeAny_builtin lm ?_;rw[Around.under_plainId fO _];show wpAny _ A.in1 (pyNext (.ref it) >>= _) _ _ s;refine ao (wpAny_pyNext_list_end hh hit hl (by simp) fun h' eb=>?_);show wpAny _ _ (cO.Dict.addKeywords D [] >>= _) _ _ _;refine ao (a_ (a_ ?_));have hD':h'.DictOf (bX prog w) D acc:=hD.extBut eb hDi;have q:=hR h' s.toks (by rw[oE (by omega)];exact hD') fun b o _ hb e=>eb b o hb e;exact q
 |succ n ih =>
  intro i s acc hn hi hz hit hl hD hp hR;have hlt:i<items.size:=by omega
  refine codeAny_builtin lm ?_;rw[Around.under_plainId fO _];show wpAny _ A.in1 (pyNext (.ref it) >>= _) _ _ s;have hu:items[i]?=some items[i]:=by simp[hlt]
  have hk:ps[i]?=some ps[i]:=fh (by omega);obtain⟨t,ku,eu,ht,hku⟩:=hp i _ _ hu hk;refine ao (wpAny_pyNext_list_item hit hl (x:=items[i]) hu fun h1 hit1 hs1=>?_);rw[eu];have hs1':js it s.heap h1:=hs1;have nt:t≠it:=by
   rintro rfl;obtain⟨o,ho,hc,_⟩:=ht;obtain⟨o',ho',hc',_⟩:=hit;rw[ho]at ho';cases ho';rw[hc]at hc';simp at hc'
  have ht1:h1.IsTuple t #[ku,ps[i].2]:=ht.extBut hs1'.extBut nt;have hT1:Shared.TypeIs { s with heap:=h1 } (.ref t) "tuple":=ht1.typeIs (s:={ s with heap:=h1 });obtain⟨ot,got,hct,nt',hdt⟩:=id ht1;refine ao (kE ?_);refine ao (wpAny_tryCatch ?_);unfold cO.Dict.pairItems;refine ao (wpAny_typeOf hT1 ?_);rw[if_pos (by decide)];refine ao (md got hdt (a_ ?_));show wpAny _ _ (m_ [ku,ps[i].2] (dictSet D ku ps[i].2)) _ _ _;have hD1:h1.DictOf (bX prog w) D acc:=hD.extBut hs1'.extBut hDi;refine kE (wpAny_dictSet_pairs (knd:=bX prog w) (k:=ps[i].1) hku hD1 (fun h2 hD2 hs2=>?_) (by omega));have hs2':js D h1 h2:=hs2;show wpAny _ _ (again _) _ _ _;refine a_ ⟨plainId_quiet fO _,?_⟩;have hl1:h1.IsList l items:=hl.extBut hs1'.extBut hli;have kp:∀b o,b≠D->b≠it->s.heap.get? b=some o->h2.get? b=some o:=fun b o h1 h2 e=>hs2'.extBut b o h1 (hs1'.extBut b o h2 e);refine ih (i+1) _ (stored acc ps[i].1 ps[i].2) (by omega) hlt (by have:=zN acc ps[i].1 ps[i].2;omega) (hit1.extBut hs2'.extBut (cW hDi)) (hl1.extBut hs2'.extBut hlD) hD2 (fun j u kv h1 h2=>?_) fun h' tk hD' kp'=>?_
  ·obtain⟨t2,ku2,e2,ht2,hk2⟩:=hp j u kv h1 h2;have n1:t2≠it:=by
    rintro rfl;obtain⟨o,ho,hc,_⟩:=ht2;obtain⟨o',ho',hc',_⟩:=hit;rw[ho]at ho';cases ho';rw[hc]at hc';simp at hc'
   have n2:t2≠D:=by
    rintro rfl;obtain⟨o,ho,hc,_⟩:=ht2;obtain⟨o',_,_,ho',hc',_⟩:=hD;rw[ho]at ho';cases ho';have:=hc'.1;rw[hc]at this;simp at this
   obtain⟨o,ho,r⟩:=ht2;exact⟨t2,ku2,e2,⟨o,kp _ o n2 n1 ho,r⟩,hk2⟩
  ·refine hR h' tk ?_ fun b o h1 h2 e=>kp' b o h1 h2 (kp b o h1 h2 e);have ed:ps.drop i=ps[i]::ps.drop (i+1):=jJ (by omega);rw[ed];exact hD'
theorem qM{l:Addr}{o:Obj}{items:Array Value}{n:Nat}{ps:List (d9×Value)}{Q:Zc}(hh:A.handled=none)(ho:s.heap.get? l=some o)(hc:o.cls=.type "list")(hdt:o.data=.seq items n)(hod:o.dict=none)
  (hps:ps.length=items.size) (hp:∀(j:Nat) (u:Value) (kv:d9×Value),items[j]?=some u->ps[j]?=some kv->AA s.heap u kv) (hz:items.size<=aj)
  (h:∀h' tk,h'.DictOf (bX prog w) s.heap.objs.size (merged [] ps)->(∀b o,s.heap.get? b=some o->h'.get? b=some o)->Q (.ref s.heap.objs.size) { s with heap:=h',toks:=tk }) :
  wpAny (model prog w) A (call (.type "dict") [.ref l]) Q E s:=by
 refine callType_codes (Q₁:=fun obj s₁=>obj=.ref s.heap.objs.size/\s₁={ s with heap:=s.heap.push { cls:=.type "dict",data:=.dict #[] } }) F.kt_called_dict (F.kt_typeCall_dict_1 _) F.entry_dict_init (kt_code_dict_new _ ⟨rfl,rfl⟩) ?_;rintro obj s₁ ⟨rfl,rfl⟩;have hnew:(s.heap.push { cls:=.type "dict",data:=.dict #[] }).DictOf (bX prog w) s.heap.objs.size []:=Heap.DictOf.new s.heap;have ho1:(s.heap.push { cls:=.type "dict",data:=.dict #[] }).get? l=some o:=bb _ ho;have hlt:l<s.heap.objs.size:=aM ho;refine⟨hnew.typeIs,F.args_dict_init_2 _ _,?_⟩;unfold cO.«dict.__init__»;refine ao ?_;unfold cO.Dict.selfAndRest;refine ao (wpAny_notOrdered_dict hnew.typeIs ?_);show wpAny _ _ (pure (s.heap.objs.size,[Value.ref l])) _ _ _;refine a_ ?_;show wpAny _ _ (cO.Dict.updateFrom "dict.__init__" s.heap.objs.size (.ref l) [] .none) _ _ _;unfold cO.Dict.updateFrom;have hTl:Shared.TypeIs { s with heap:=s.heap.push { cls:=.type "dict",data:=.dict #[] } } (.ref l) "list":=⟨o,ho1,hc⟩;refine ao (wpAny_typeOf hTl ?_);rw[if_pos (by decide)];refine ao (CA ho1 hc hdt hod hh fun h1 tk1 k1=>?_);have k1':∀b ob,(s.heap.push { cls:=.type "dict",data:=.dict #[] }).get? b=some ob->h1.get? b=some ob:=k1;rw[if_pos (by rfl:(none:Option Value).isNone=true)];refine ao (qh ?_);have hl1:h1.IsList l items:=⟨o,k1' _ _ ho1,hc,n,hdt⟩;refine ao (AS (s:={ s with heap:=h1,toks:=tk1 }) hl1 ?_);have hD1:h1.DictOf (bX prog w) s.heap.objs.size []:=by
  obtain⟨od,es,ep,g,r⟩:=hnew;exact⟨od,es,ep,k1' _ _ g,r⟩
 have hDlt:s.heap.objs.size<h1.objs.size:=by
  obtain⟨od,es,ep,g,r⟩:=hD1;exact aM g
 refine a_ ⟨plainId_quiet fO _,?_⟩;refine Dj (A:=A.in1) (prog:=prog) (w:=w) hh (D:=s.heap.objs.size) (it:=h1.objs.size) (l:=l) (items:=items) (ps:=ps) (cx hDlt) (cx (Nat.lt_trans hlt hDlt)) (cx hlt) hps items.size 0 _ [] (vA _) (bR _) (by rw[rZ];omega)
  ⟨_,dz _ rfl,rfl,rfl⟩ (hl1.push _) (hD1.push _) (fun j u kv a b=>?_) fun h' tk hD' kp=>?_
 ·obtain⟨t,ku,e,ht,hk⟩:=hp j u kv a b;obtain⟨ot,g,r⟩:=ht;exact⟨t,ku,e,⟨ot,bb _ (k1' _ _ (bb _ g)),r⟩,hk⟩
 ·rw[mq]at hD';refine⟨rfl,h h' tk hD' fun b ob e=>kp b ob (cx (aM e)) (cx (Nat.lt_trans (aM e) hDlt)) (bb _ (k1' _ _ (bb _ e)))⟩
end
section
variable{X:Cx}
theorem xr(hc:X.calm=true):gS X (.type "dict") (fun xs H Q=>∃(l:Addr) (ts:Ze) (kvs:List (d9×V)),xs=[.ref l]/\aA X.K H l (ts.map V.ref)/\ts.length=kvs.length /\
  (∀(j:Nat) (t:Addr) (kv:d9×V),ts[j]?=some t->kvs[j]?=some kv->H t=some (.tup [kV kv.1,kv.2]))/\∀p,H p=none->Q (.ref p) (upd H p (.dK (jk [] kvs)))):=by
 intro J6 s σ H xs us Q I r h;obtain⟨l,ts,kvs,rfl,hl,hlen,ht,q⟩:=h;obtain⟨u,rfl,ru⟩:=vals1 r;cases ru;obtain⟨its,rv,⟨o,n,ho,hcl,hod,hdt⟩,hz⟩:=I.list hl;have key:∀(ts:Ze) (kvs:List (d9×V)),ts.length=kvs.length->(∀(j:Nat) (t:Addr) (kv:d9×V),ts[j]?=some t->kvs[j]?=some kv->H t=some (.tup [kV kv.1,kv.2]))->∃ps:List (d9×Value),KV kvs ps/\∀(j:Nat) (t:Addr) (kv:d9×Value),ts[j]?=some t->ps[j]?=some kv->AA s.heap (.ref t) kv:=by
  intro ts
  induction ts with
  |nil =>
   intro kvs hl _;cases kvs with
   |nil=>exact⟨[],.nil,fun j t kv e=>by simp at e⟩
   |cons _ _=>cases hl
  |cons t ts ih =>
   intro kvs hl ht;cases kvs with
   |nil=>cases hl
   |cons kv kvs =>
    obtain⟨ps,r1,r2⟩:=ih kvs (by simpa using hl) fun j t' kv' a b=>ht (j+1) t' kv' (by simpa using a) (by simpa using b);obtain⟨_,itt,rt,p⟩:=(show cL X.prog X.w X.K H s.heap t (.tup [kV kv.1,kv.2])from I.hok t _ (ht 0 t kv rfl rfl));obtain⟨a,b,e,ra,rb⟩:=rt.two;subst e;refine⟨(kv.1,b)::ps,.cons ⟨rfl,rb⟩ r1,fun j t' kv' h1 h2=>?_⟩;cases j with
    |zero =>
     simp at h1 h2;subst h1 h2;exact⟨t,a,rfl,p,kb (P:=X.prog) (w:=X.w) ra⟩
    |succ j=>exact r2 j t' kv' (by simpa using h1) (by simpa using h2)
 obtain⟨ps,rel,pa⟩:=key ts kvs hlen ht;have hl1:=rv.length;rw[am]at hl1;have hl2:=rel.length;refine qM (prog:=X.prog) (w:=X.w) (ps:=ps) (I.ok.hd hc) ho hcl hdt hod (by rw[cr];omega) (fun j u kv a b=>?_) (by rw[cr,<-hl1];rw[am]at hz;exact hz) fun h' tk hD kp=>?_
 ·have a':its[j]?=some u:=by simpa using a
  have hj:j<ts.length:=by
   have:=(db.mp a').1;omega
  obtain⟨u',e1,r1⟩:=rv.get (i:=j) (x:=V.ref ts[j]) (by simp[hj]);rw[a']at e1;cases e1;cases(show u=Value.ref ts[j]from r1);exact pa j ts[j] kv (by simp[hj]) b
 ·have hm:(jk [] kvs).length<=aj:=by
   have h1:=mh kvs [];rw[rZ]at h1;rw[am]at hz;omega
  exact⟨.ref s.heap.objs.size,_,I.laid (o:=.dK (jk [] kvs)) kp (aN _) (Ff hm (beq_eq_false_iff_ne.mpr (cW (cx I.big))) (rel.merge .nil) hD),rfl,q _ I.fresh⟩
end
abbrev eN:R2:=Bi fun i j=>.int (i+j)
abbrev G1:R2:=Bi fun i j=>.int (i-j)
abbrev kQ:R2:=rI Fx fun i j=>.int (i * j)
abbrev i6:R2:=rI (fun _ j=>0<j) fun i j=>.int (i % j)
abbrev DY:R2:=rI JT fun i j=>.int (i / j)
abbrev G3:R2:=rI JS fun i j=>.int (i ^ j.toNat)
abbrev zZ:R2:=Bi fun i j=>.bl (decide (i<j))
abbrev HU:R2:=Bi fun i j=>.bl (decide (i<=j))
abbrev Cr:R2:=Bi fun i j=>.bl (decide (j<i))
abbrev rGeI:R2:=Bi fun i j=>.bl (decide (j<=i))
abbrev fC:R2:=fun x y H Q=>∃i j,x=.str i/\y=.str j/\i.length+j.length<=aj/\Q (.str (i++j)) H
abbrev Jn:R2:=fun x y H Q=>∃c j,x=.str ⟨#[c]⟩/\y=.str j/\Q (.bl (decide (c∈j.cps.toList))) H
abbrev nQ(K:Za):List V->Hp->VK->Prop:=fun xs H Q=>∃x c t b,xs=[x,.ty c]/\TyX K H x t/\xL K t (.type c)=some b/\Q (.bl b) H
abbrev Cu(K:Za):List V->Hp->VK->Prop:=fun xs H Q=>∃(p:Addr) (bs:List Bool),xs=[.ref p]/\aA K H p (bs.map V.bl)/\Q (.bl (bs.all id)) H
abbrev G0(K:Za):List V->Hp->VK->Prop:=fun xs H Q=>∃p ys,xs=[.ref p]/\((aA K H p ys/\∀l,H l=none->Q (.ref l) (upd H l (.tup ys)))∨(b_ K H p ys/\Q (.ref p) H))
abbrev F_(K:Za):List V->Hp->VK->Prop:=fun xs H Q=>∃(l:Addr) (ts:Ze) (kvs:List (d9×V)),xs=[.ref l]/\aA K H l (ts.map V.ref)/\ts.length=kvs.length /\
  (∀(j:Nat) (t:Addr) (kv:d9×V),ts[j]?=some t->kvs[j]?=some kv->H t=some (.tup [kV kv.1,kv.2]))/\∀p,H p=none->Q (.ref p) (upd H p (.dK (jk [] kvs)))
abbrev fL(K:Za):List V->Hp->VK->Prop:=fun xs H Q =>
 (∃p ys,xs=[.ref p]/\(aA K H p ys∨b_ K H p ys)/\∀l,H l=none->Q (.ref l) (upd H l (.lst ys))) ∨
 (∃(d:Addr) (kvs:List (d9×V)),xs=[.ref d]/\Rd H d (.dK kvs)/\∀l,H l=none->Q (.ref l) (upd H l (.lst (kvs.map fun kv=>kV kv.1))))
abbrev cV(K:Za):List V->Hp->VK->Prop:=fun xs H Q =>
 (∃p ys,xs=[.ref p]/\(aA K H p ys∨b_ K H p ys)/\Q (.int ys.length) H)∨(∃z,xs=[.str z]/\z.length<=aj/\Q (.int z.length) H)
theorem d7:iX "isinstance"=some (.builtin "isinstance"):=by decide +kernel
theorem tN:iX "list"=some (.type "list"):=by decide +kernel
theorem lp:iX "tuple"=some (.type "tuple"):=by decide +kernel
theorem Ay:iX "dict"=some (.type "dict"):=by decide +kernel
theorem Az:iX "bool"=some (.type "bool"):=by decide +kernel
theorem CT:iX "int"=some (.type "int"):=by decide +kernel
theorem CS:iX "str"=some (.type "str"):=by decide +kernel
section
variable{X:Cx}{p pos:Pos}
theorem CQ:gS X (.builtin "len") (cV X.K):=xm.or xk
theorem Ax(hc:X.calm=true):gS X (.type "list") (fL X.K):=xj.or (tM hc)
theorem mI(hg:Gl X "bool")(hm:X.mg "bool"=none):PE X (.Name "bool" pos) (tC (.ty "bool")):=nU hg hm Az rfl
theorem uW(hg:Gl X "int")(hm:X.mg "int"=none):PE X (.Name "int" pos) (tC (.ty "int")):=nU hg hm CT rfl
theorem uV(hg:Gl X "str")(hm:X.mg "str"=none):PE X (.Name "str" pos) (tC (.ty "str")):=nU hg hm CS rfl
theorem sP(hg:Gl X "list")(hm:X.mg "list"=none):PE X (.Name "list" pos) (tC (.ty "list")):=nU hg hm tN rfl
theorem kY(hg:Gl X "tuple")(hm:X.mg "tuple"=none):PE X (.Name "tuple" pos) (tC (.ty "tuple")):=nU hg hm lp rfl
end
def Gc(mg:Str->Option Value)(x:Str)(v:V):Prop:=∃u,mg x=some u/\RelV v u
theorem jz{X:Cx}{x:Str}{v:V}{pos:Pos}(hg:Gl X x)(h:Gc X.mg x v)(hd:(x==("__debug__":Str))=false:=by decide):PE X (.Name x pos) (tC v):=by
 obtain⟨u,hm,r⟩:=h;exact Gg hg hm r hd
structure iT(P:bB)(w:World)(K:Za)(mg:Str->Option Value)(base:Heap)(x:Str)(ps:Zb)(k:Nat)(sp:Sp):Prop where
 ex:∃f fd,ik P w K mg base CX0 k f fd ps sp/\mg x=some (.ref f)/\eh K (.ref f)=true/\Binds K fd ps []
structure New(P:bB)(w:World)(K:Za)(mg:Str->Option Value)(base:Heap)(x:Str)(C:Addr)(ps:Zb)(k:Nat)(sp:Sp):Prop where
 ex:∃f fd,ik P w K mg base CX0 k f fd ps sp/\mg x=some (.ref C)/\Mk K C f/\Binds K fd ps []
structure IQ(P:bB)(w:World)(K:Za)(mg:Str->Option Value)(base:Heap)(C:Addr)(m:Str)(ps:Zb)(k:Nat)(sp:Sp):Prop where
 ex:∃f fd,ik P w K mg base CX0 k f fd ps sp/\Db K C/\IR K C m f/\Binds K fd ps []
section
variable{X:Cx}{k:Nat}{ps:Zb}{sp:Sp}{x m:Str}{C:Addr}{p pos J8:Pos}{o e:Expr}{es:List Expr}{t:TA}{ta:TE}
theorem G_(D:iT X.prog X.w X.K X.mg X.base x ps k sp)(hr:du k X.A)(hg:Gl X x)(ha:PA X (e::es) t)(hdb:(x==("__debug__":Str))=false:=by decide)
  (he:aB (e::es) X.env=(false,eval e X.env)::aB es X.env:=by rfl) (hpl:(backTo pos (aB es X.env)).any (·.1)=false:=by rfl) :
  PE X (.Call (.Name x p) (e::es) [] pos) (aR sp t):=by
 obtain⟨f,fd,F,hm,hk,hb⟩:=D.ex;exact wx F hr hg hm hk hb .nil Em ha hdb he hpl
theorem Ei(D:iT X.prog X.w X.K X.mg X.base x ps k sp)(hr:du k X.A)(hg:Gl X x)(hdb:(x==("__debug__":Str))=false:=by decide):
  PE X (.Call (.Name x p) [] [] pos) (aR sp bF):=by
 obtain⟨f,fd,F,hm,hk,hb⟩:=D.ex;exact El F hr hg hm hk hb .nil Em hdb
theorem Gf{pl:Sem Bool}(M:IQ X.prog X.w X.K X.mg X.base C m ps k sp)(hr:du k X.A)(he:PE X o ta)
  (ht:eval (.Call (.Attribute o m J8) [] [] pos) X.env=(do
   let ov <- eval o X.env
   uF J8.atName
   let(f,first) <- m_ [ov] (uD ov m pl)
   vS pos f first (backTo pos (aB [] X.env)) (oR pos (oQ [] X.env))):=by rfl) :
  PE X (.Call (.Attribute o m J8) [] [] pos) (jv C m sp [] E0 ta bF):=by
 obtain⟨f,fd,F,c,hm,hb⟩:=M.ex;exact Eg he c hm F hr hb .nil Em ht
end
def Jx(K:Za)(tl:TE):TI:=fun σ H R=>tl σ H fun x H1=>∃a,x=.ref a/\(((∃xs,aA K H1 a xs)/\R (Hs K a) H1)∨((∃xs,b_ K H1 a xs)/\R (I_ K a) H1))
theorem H_{X:Cx}{tg l:Expr}{tl:TE}(hl:PE X l tl):PI X tg l (Jx X.K tl):=by
 intro J6 s σ H R I h;refine cM (hl J6 s σ H _ I h) fun v s1 ⟨x,H1,I1,r1,q1⟩=>?_;obtain⟨a,e,q⟩:=q1;subst e;cases r1;have fin:∀b∈[s1.heap.objs.size],lr X J6 H1 b:=fun b hb=>by
  have e:b=s1.heap.objs.size:=by simpa using hb
  subst e;exact I1.fpOk (aN _) (I1.hok.fresh (aN _))
 rcases q with⟨⟨xs,hq⟩,q⟩|⟨⟨xs,hq⟩,q⟩
 ·obtain⟨its,rv,p,hz⟩:=I1.list hq;refine AS p.isList ?_;exact⟨s1.heap.objs.size,[s1.heap.objs.size],_,_,H1,rfl,I1.kept (t':=s1.toks) fun b o e=>bb _ e,uJ a _,⟨_,dz _ rfl,rfl,rfl⟩,fin,q⟩
 ·obtain⟨its,rv,p,hz⟩:=I1.tuple hq;refine AR p ?_;exact⟨s1.heap.objs.size,[s1.heap.objs.size],_,_,H1,rfl,I1.kept (t':=s1.toks) fun b o e=>bb _ e,si a _,⟨_,dz _ rfl,rfl,rfl⟩,fin,q⟩
theorem eW{K:Za}{a:Addr}{xs:List V}{g:TG}{tb:TS}{D:il}{σ:St}{H:Hp}(Pv:Nat->St->Hp->Prop)(h0:Pv 0 σ H)(hl:∀i σ H,i<=xs.length->Pv i σ H->aA K H a xs)
  (hs:∀i x σ H p,xs[i]?=some x->Pv i σ H->H p=none->g (.ref p) σ (upd H p (.tup [.int i,x])) fun σ2 H2=>tb { D with nx:=Pv (i+1),ct:=Pv (i+1),bk:=D.nx } σ2 H2) (hd:∀σ H,Pv xs.length σ H->D.nx σ H) :
  ∃W:Nat->Nat->St->Hp->Prop,(∃m,W 0 m σ H)/\∀i m σ H,W i m σ H ->
   ((JM K a).stop i H/\D.nx σ H)∨((JM K a).go i H/\∃N:St->Hp->Prop,(∀σ' H',N σ' H'->∃m',m'<m/\W (i+1) m' σ' H')/\∀x H',(JM K a).yld i H x H'->g x σ H' fun σ2 H2=>tb { D with nx:=N,ct:=N,bk:=D.nx } σ2 H2):=by
 refine⟨fun i m σ H=>m=xs.length-i/\i<=xs.length/\Pv i σ H,⟨xs.length,by simp,bR _,h0⟩,?_⟩;rintro i m σ H ⟨rfl,hi,p⟩;have q:=hl i σ H hi p;by_cases hlt:i<xs.length
 ·refine .inr ⟨⟨xs,xs[i],q,by simp[hlt]⟩,Pv (i+1),fun σ' H' p'=>⟨xs.length-(i+1),by omega,rfl,hlt,p'⟩,fun x H' y=>?_⟩;obtain⟨t,v,rfl,hn,hv,rfl⟩:=y;exact hs i v σ H t (hv xs q) p hn
 ·have e:i=xs.length:=by omega
  subst e;exact .inl ⟨⟨xs,q,aN _⟩,hd σ H p⟩
def Wc(n:Nat)(Pv:Nat->List V->Hp->Prop):Nat->Nat->List V->Hp->Prop:=fun i m vs H=>m=n-i/\i<=n/\Pv i vs H
theorem u3{n i:Nat}{Pv:Nat->List V->Hp->Prop}{vs:List V}{H:Hp}(hi:i<n)(p:Pv (i+1) vs H):∃m',m'<n-i/\Wc n Pv (i+1) m' vs H:=⟨n-(i+1),by omega,rfl,hi,p⟩
abbrev lz(k:Nat)(fi:List Nat)(σ:St)(J:It)(g:TG)(tc:TT)(te:TE)(H1:Hp)(l:Addr)(Q:Hp->Prop):Prop :=
 ∃W:Nat->Nat->List V->Hp->Prop,(∃m,W 0 m [] (upd H1 l (.lst [])))/\∀i m vs H2,W i m vs H2->H2 l=some (.lst vs) /\
  ((J.stop i H2/\Q H2)∨(J.go i H2/\∀x H3,J.yld i H2 x H3->g x (ef k fi σ) H3 fun σ2 H4=>tc σ2 H4 fun b H5 =>
   if b=true then te σ2 H5 fun v H6=>H6 l=some (.lst vs)/\vs.length<aj/\∃m',m'<m/\W (i+1) m' (vs++[v]) (upd H6 l (.lst (vs++[v])))else ∃m',m'<m/\W (i+1) m' vs H5))
theorem ol{k:Nat}{fi:List Nat}{J:It}{g:TG}{tc:TT}{te:TE}{σ:St}{H1:Hp}{Q:Hp->Prop}{l:Addr}(n:Nat)(Pv:Nat->List V->Hp->Prop)(h0:Pv 0 [] (upd H1 l (.lst [])))
  (hl:∀i vs H,i<=n->Pv i vs H->H l=some (.lst vs)) (hgo:∀i vs H,i<n->Pv i vs H->J.go i H) (hst:∀vs H,Pv n vs H->J.stop n H/\Q H)
  (hs:∀i vs H x H3,i<n->Pv i vs H->J.yld i H x H3->g x (ef k fi σ) H3 fun σ2 H4=>tc σ2 H4 fun b H5 =>
   if b=true then te σ2 H5 fun v H6=>H6 l=some (.lst vs)/\vs.length<aj/\∃m',m'<n-i/\Wc n Pv (i+1) m' (vs++[v]) (upd H6 l (.lst (vs++[v])))else ∃m',m'<n-i/\Wc n Pv (i+1) m' vs H5) :
  lz k fi σ J g tc te H1 l Q:=by
 refine⟨Wc n Pv,⟨n,by simp[Wc],bR _,h0⟩,?_⟩;rintro i m vs H ⟨rfl,hi,p⟩;refine⟨hl i vs H hi p,?_⟩;by_cases hlt:i<n
 ·exact .inr ⟨hgo i vs H hlt p,fun x H3 y=>hs i vs H x H3 hlt p y⟩
 ·have e:i=n:=by omega
  subst e;exact .inl (hst vs H p)
section
variable{K:Za}{k:Nat}{fi:List Nat}{g:TG}{tc:TT}{te:TE}{σ:St}{H1:Hp}{Q:Hp->Prop}{l:Addr}
theorem dL{a:Addr}{xs:List V}(Pv:Nat->List V->Hp->Prop)(h0:Pv 0 [] (upd H1 l (.lst [])))
  (hl:∀i vs H,i<=xs.length->Pv i vs H->H l=some (.lst vs)/\aA K H a xs) (hd:∀vs H,Pv xs.length vs H->Q H)
  (hs:∀i vs H x,xs[i]?=some x->i<xs.length->Pv i vs H->g x (ef k fi σ) H fun σ2 H4=>tc σ2 H4 fun b H5 =>
   if b=true then te σ2 H5 fun v H6=>H6 l=some (.lst vs)/\vs.length<aj/\∃m',m'<xs.length-i/\Wc xs.length Pv (i+1) m' (vs++[v]) (upd H6 l (.lst (vs++[v])))else ∃m',m'<xs.length-i/\Wc xs.length Pv (i+1) m' vs H5) :
  lz k fi σ (Hs K a) g tc te H1 l Q:=by
 refine ol xs.length Pv h0 (fun i vs H hi p=>(hl i vs H hi p).1) (fun i vs H hi p=>⟨xs,xs[i],(hl i vs H (ei hi) p).2,by simp[hi]⟩) (fun vs H p=>⟨⟨xs,(hl _ vs H (aN _) p).2,aN _⟩,hd vs H p⟩) fun i vs H x H3 hi p y=>?_;obtain⟨rfl,y⟩:=y;exact hs i vs _ x (y xs (hl i vs _ (ei hi) p).2) hi p
theorem Av{lo:Int}{n:Nat}(Pv:Nat->List V->Hp->Prop)(h0:Pv 0 [] (upd H1 l (.lst [])))
  (hl:∀i vs H,i<=n->Pv i vs H->H l=some (.lst vs)) (hd:∀vs H,Pv n vs H->Q H)
  (hs:∀i vs H,i<n->Pv i vs H->g (.int (lo+i)) (ef k fi σ) H fun σ2 H4=>tc σ2 H4 fun b H5 =>
   if b=true then te σ2 H5 fun v H6=>H6 l=some (.lst vs)/\vs.length<aj/\∃m',m'<n-i/\Wc n Pv (i+1) m' (vs++[v]) (upd H6 l (.lst (vs++[v])))else ∃m',m'<n-i/\Wc n Pv (i+1) m' vs H5) :
  lz k fi σ (IS lo n) g tc te H1 l Q:=by
 refine ol n Pv h0 hl (fun i vs H hi p=>hi) (fun vs H p=>⟨aN _,hd vs H p⟩) fun i vs H x H3 hi p y=>?_;obtain⟨rfl,rfl⟩:=y;exact hs i vs _ hi p
theorem yV{x:Str}(Pv:Nat->List V->Hp->Prop)(h0:Pv 0 [] (upd H1 l (.lst [])))
  (hl:∀i vs H,i<=x.cps.size->Pv i vs H->H l=some (.lst vs)) (hd:∀vs H,Pv x.cps.size vs H->Q H)
  (hs:∀i vs H c,x.cps[i]?=some c->i<x.cps.size->Pv i vs H->g (.str ⟨#[c]⟩) (ef k fi σ) H fun σ2 H4=>tc σ2 H4 fun b H5 =>
   if b=true then te σ2 H5 fun v H6=>H6 l=some (.lst vs)/\vs.length<aj/\∃m',m'<x.cps.size-i/\Wc x.cps.size Pv (i+1) m' (vs++[v]) (upd H6 l (.lst (vs++[v])))else ∃m',m'<x.cps.size-i/\Wc x.cps.size Pv (i+1) m' vs H5) :
  lz k fi σ (Kb x) g tc te H1 l Q:=by
 refine ol x.cps.size Pv h0 hl (fun i vs H hi p=>hi) (fun vs H p=>⟨aN _,hd vs H p⟩) fun i vs H y H3 hi p yl=>?_;obtain⟨rfl,c,hc,rfl⟩:=yl;exact hs i vs _ c hc hi p
end
theorem gN{j:Nat}{x:V}{σ:St}{H:Hp}{Q:St->Hp->Prop}(h:Q (σ.set j (some x)) H):d4 j x σ H Q:=h
theorem t7{σ:St}{H:Hp}{A B:Hp->Prop}(h:A H):ju σ H (fun b H5=>if b=true then A H5 else B H5):=by
 show(if(true:Bool)=true then A H else B H)
 exact h
theorem Obj.mapF{o:Obj}{vs:Array Value}(hd:o.data=.fields vs)(f:Array Value->Array Value):o.mapFields f={ o with data:=.fields (f vs) }:=by
 obtain⟨c,d,dt,sl⟩:=o;cases hd
 rfl
structure Fw(fs:Ze)(e:Addr)(T:Option Addr)(h h':Heap):Prop where
 keep:∀b o,h.get? b=some o->b≠e->some b≠T->b∉fs->h'.get? b=some o
 slot:∀b o,h.get? b=some o->b≠e->some b≠T->b∈fs->∃sl,h'.get? b=some { o with slots:=sl }
 there:∀b o,h.get? b=some o->∃o',h'.get? b=some o'
def Trc(n:Nat)(h:Heap)(e:Addr)(vs:Array Value)(T:Option Addr):Prop :=
 (vs[1]?=some .none/\T=none)∨∃t oT ts,T=some t/\vs[1]?=some (.ref t)/\n<=t/\t≠e/\h.get? t=some oT/\oT.data=.fields ts/\ts[3]?=some .none
section
variable{M:Model}{A:Around}{E:Zc}{s:Shared}{base:Heap}{env:Env}{outer:List Env}{L e:Addr}{oe:Obj}{vs:Array Value}{Q:Unit->Shared->Prop}
theorem A3{head:Value}{hadNext:Bool}(hfr:A.frames=some (env::outer))(hl:s.heap.FunFrames base (env::outer))(hf:env.frame=some L)
  (he:s.heap.get? e=some oe) (hd:oe.data=.fields vs) (hsz:1<vs.size)
  (h:∀h' vs' oT ts,Fw (mi (env::outer)) e none s.heap h'->h'.get? e=some { oe with data:=.fields vs' }->vs'[1]?=some (.ref s.heap.objs.size) ->
   h'.get? s.heap.objs.size=some oT->oT.data=.fields ts->ts[3]?=some .none->Q () { s with heap:=h' }) :
  wpAny M A (do let fr <- frameOf env;let pl <- entryPlaceOf L hadNext;let nw <- vz head fr .none (rawInt L) .none pl;setField (.ref e) 1 nw) (fun _ s'=>wpAny M A (jI (.ref e) none) Q E s') E s:=by
 have nfr:e∉mi (env::outer):=fun z=>by
  obtain⟨_,o,q1,q2⟩:=hl.mem z;rw[he]at q1;cases q1;exact q2 vs hd
 refine ao (wpAny_frameOf_fun hfr hl hf fun h1 so=>ao (wpAny_entryPlaceOf fun pl hpl=>?_));unfold vz newFields;refine ao (rV ?_ (hpl.sizeOk5 _ _ _ _ _));generalize hN:({ cls:=.type "traceback",dict:=none,data:=.fields ([head,.ref L,.none,rawInt L,.none]++(if pl.isEmpty then kI 6 Value.none else pl)).toArray }:Obj)=oN
 have dN:oN.data=.fields ([head,.ref L,.none,rawInt L,.none]++(if pl.isEmpty then kI 6 Value.none else pl)).toArray:=by rw[<-hN]
 have fN:oN.isFreed=false:=by rw[<-hN];rfl
 have e1:h1.get? e=some oe:=(so.2.1 e nfr).trans he;have e2:=bb (h:=h1) oN e1;have z1:h1.objs.size=s.heap.objs.size:=so.1;refine jg e2 hd hsz ?_;have ne:h1.objs.size≠e:=eK (aM e1);have d3:=gZ hd (·.setIfInBounds 1 (Value.ref h1.objs.size));have e3:=g8 (cY (·.setIfInBounds 1 (Value.ref h1.objs.size))) e2 (kB d3);have t3:((h1.push oN).update e (cY (·.setIfInBounds 1 (Value.ref h1.objs.size)))).get? h1.objs.size=some oN:=(fj (h1.push oN) _ (cW ne)).trans (dz h1 fN);unfold jI;refine ao (cq e3 d3 (x:=.ref h1.objs.size) (by simp[hsz]) ?_);rw[if_pos (show(Value.ref h1.objs.size != Value.none)=true from by simp)];refine jg t3 dN (by simp only[cr,bp,cw,rZ]<;>omega) ?_;have t4:=g8 (cY (·.setIfInBounds 3 ((none:Option Addr).elim Value.none fun f=>rawInt f))) t3 (kB (gZ dN _));have oth:∀b o,b≠e->h1.get? b=some o->(((h1.push oN).update e (cY (·.setIfInBounds 1 (Value.ref h1.objs.size)))).update h1.objs.size (cY (·.setIfInBounds 3 ((none:Option Addr).elim Value.none fun f=>rawInt f)))).get? b=some o:=fun b o nb q=>by
  rw[fj _ _ (eK (aM q)),fj _ _ (cW nb)];exact bb _ q
 have e4:(((h1.push oN).update e (cY (·.setIfInBounds 1 (Value.ref h1.objs.size)))).update h1.objs.size (cY (·.setIfInBounds 3 ((none:Option Addr).elim Value.none fun f=>rawInt f)))).get? e=some { oe with data:=.fields (vs.setIfInBounds 1 (Value.ref h1.objs.size)) }:=by
  rw[fj _ _ ne,e3,Obj.mapF hd]
 refine h _ _ _ _ ⟨fun b o q nb _ nf=>oth b o nb ((so.2.1 b nf).trans q),fun b o q nb _ nf=>?_,fun b o q=>?_⟩ e4 ?_ (by rw[<-z1];exact t4) (gZ dN _) ?_
 ·obtain⟨sl,q1⟩:=so.2.2 b o q;exact⟨sl,oth b _ nb q1⟩
 ·by_cases nb:b=e
  ·rw[nb];exact⟨_,e4⟩
  ·obtain⟨sl,q1⟩:=so.2.2 b o q;exact⟨_,oth b _ nb q1⟩
 ·rw[<-z1];simp[hsz]
 ·first|(simp;done)|(rcases hpl with rfl|⟨_,_,_,_,_,_,_,rfl⟩<;>simp)
theorem Hy{n:Nat}{T:Option Addr}(hfr:A.frames=some (env::outer))(hl:s.heap.FunFrames base (env::outer))(hf:env.frame=some L)
  (he:s.heap.get? e=some oe) (hd:oe.data=.fields vs) (ht:Trc n s.heap e vs T)
  (h:∀h' vs' oT ts,Fw (mi (env::outer)) e T s.heap h'->h'.get? e=some { oe with data:=.fields vs' }->vs'[1]?=some (.ref s.heap.objs.size) ->
   h'.get? s.heap.objs.size=some oT->oT.data=.fields ts->ts[3]?=some .none->Q () { s with heap:=h' }):wpAny M A (jK (.ref e) env) (fun _ s'=>wpAny M A (jI (.ref e) none) Q E s') E s:=by
 unfold jK;simp only[hf];rcases ht with⟨h1,rfl⟩|⟨t,oT,ts,rfl,h1,_,hte,hT,hdT,h3⟩
 ·refine ao (cq he hd h1 ?_);rw[if_neg (by decide)];exact A3 hfr hl hf he hd (eP.mp h1).1 h
 ·refine ao (cq he hd h1 ?_);rw[if_pos (show(Value.ref t != Value.none)=true from by simp)];refine ao (cq hT hdT h3 ?_);rw[if_neg (show ¬((Value.none==rawInt L)=true)from by simp[rawInt])];refine ao (jg hT hdT (eP.mp h3).1 ?_);have oth:∀b,b≠t->(s.heap.update t (cY (·.setIfInBounds 3 Value.none))).get? b=s.heap.get? b:=fun b hb=>fj _ _ (cW hb);have tt:=g8 (cY (·.setIfInBounds 3 Value.none)) hT (kB (gZ hdT _));have nfr:t∉mi (env::outer):=fun z=>by
   obtain⟨_,o,q1,q2⟩:=hl.mem z;rw[hT]at q1;cases q1;exact q2 ts hdT
  have nrec:∀b o,s.heap.get? b=some o->(∀ws,o.data≠.fields ws)->b≠t:=fun b o hb hnf q=>by
   rw[q,hT]at hb;cases hb;exact hnf ts hdT
  have sz:(s.heap.update t (cY (·.setIfInBounds 3 Value.none))).objs.size=s.heap.objs.size:=Heap.size_after_update ..;refine A3 (s:={ s with heap:=s.heap.update t (cY (·.setIfInBounds 3 Value.none)) }) hfr (hl.of_keeps fun b o hb hnf=>⟨o,(oth b (nrec b o hb hnf)).trans hb,rfl⟩) hf ((oth e (cW hte)).trans he) hd (eP.mp h1).1 ?_;intro h' vs' oT' ts' fl q1 q2 q3 q4 q5;rw[sz]at q2 q3;refine h h' vs' oT' ts' ⟨fun b o q nb nt nf=>fl.keep b o ((oth b fun z=>nt (by rw[z])).trans q) nb (by simp) nf,fun b o q nb nt nf=>fl.slot b o ((oth b fun z=>nt (by rw[z])).trans q) nb (by simp) nf,fun b o q=>?_⟩ q1 q2 q3 q4 q5;by_cases hb:b=t
  ·rw[hb];exact fl.there t _ tt
  ·exact fl.there b o ((oth b hb).trans q)
end
def hV(a C:Addr)(od:Option Addr):Heap->Prop:=fun h=>∃vs,h.get? a=some { cls:=.ref C,dict:=od,data:=.fields vs }/\1<vs.size
def cT(a C:Addr)(od:Option Addr):Heap->Prop:=fun h=>∃vs,h.get? a=some { cls:=.ref C,dict:=od,data:=.fields vs }/\vs[1]?=some .none
theorem pL{P:bB}{w:World}{K:Za}{H:Hp}{h:Heap}{a C:Addr}{od:Option Addr}{vs:Array Value}(e:h.get? a=some { cls:=.ref C,dict:=od,data:=.fields vs })(z:1<vs.size):cL P w K H h a (.ext (hV a C od)) :=
 ⟨⟨vs,e,z⟩,⟨_,e⟩,fun _ _ ⟨us,q,y⟩ k=>⟨us,k _ q,y⟩⟩
theorem pM{P:bB}{w:World}{K:Za}{H:Hp}{h:Heap}{a C:Addr}{od:Option Addr}{vs:Array Value}(e:h.get? a=some { cls:=.ref C,dict:=od,data:=.fields vs })(z:vs[1]?=some .none):cL P w K H h a (.ext (cT a C od)) :=
 ⟨⟨vs,e,z⟩,⟨_,e⟩,fun _ _ ⟨us,q,y⟩ k=>⟨us,k _ q,y⟩⟩
structure h_(n:Nat)(h:Heap)(H:Hp)(a C:Addr)(od:Option Addr):Prop where
 trk:H a=some (.ext (hV a C od))
 new:n<=a
 tr:∃vs T,h.get? a=some { cls:=.ref C,dict:=od,data:=.fields vs }/\1<vs.size/\Trc n h a vs T/\∀t,T=some t->H t=none
theorem h_.mono{n n':Nat}{h:Heap}{H:Hp}{a C:Addr}{od:Option Addr}(x:h_ n h H a C od)(l:n'<=n):h_ n' h H a C od :=
 ⟨x.trk,bj l x.new,let⟨vs,T,e,z,tr,f⟩:=x.tr;⟨vs,T,e,z,by
  rcases tr with q|⟨t,oT,ts,q1,q2,q3,q4⟩
  ·exact .inl q
  ·exact .inr ⟨t,oT,ts,q1,q2,bj l q3,q4⟩,f⟩⟩
theorem yF{P:bB}{w:World}{K:Za}{H:Hp}{h h':Heap}{fs:Ze}{a C:Addr}{od T:Option Addr}{vs':Array Value}(ok:ki P w K H h)(ha:H a=some (.ext (hV a C od)))(hT:∀t,T=some t->H t=none)(hfs:∀b∈fs,H b=none)
  (fl:Fw fs a T h h') (e':h'.get? a=some { cls:=.ref C,dict:=od,data:=.fields vs' }) (z:1<vs'.size):ki P w K H h':=fun b u q=>by
 by_cases hb:b=a
 ·subst hb;rw[ha]at q;cases q;exact pL e' z
 ·have go:∀c o v,H c=some v->c≠a->h.get? c=some o->h'.get? c=some o:=fun c o v hc na g =>
   fl.keep c o g na (fun z=>by rw[hT c z.symm]at hc;cases hc) fun z=>by rw[hfs c z]at hc;cases hc
  refine(ok b u q).stay (fun c o hc g=>?_) (fun _ r=>r) fun _ _ r=>r;rcases hc with rfl|hc
  ·exact go c o u q hb g
  ·exact go c o _ hc (fun z=>by rw[z,ha]at hc;cases hc) g
structure kf(X:Cx)(J6:Zd)(n:Nat):Prop where
 s0:X.s₀.heap.objs.size<=n
 loc:X.env.locals<n
 cell:∀x c,X.env.cells.lookup x=some c->c<n
 pin:∀p∈X.pn++J6,p.1<n
theorem Inv.young{X:Cx}{J6:Zd}{σ:St}{H:Hp}{s:Shared}(I:Inv X J6 σ H s):kf X J6 s.heap.objs.size :=
 ⟨I.sz,I.lt,fun x c e=>let⟨_,_,q,_⟩:=I.cell x c e;aM q,fun p hp=>aM (I.pin p hp).1⟩
section
variable{X:Cx}{J6:Zd}{σ:St}{H:Hp}{s:Shared}{n:Nat}{a C:Addr}{od:Option Addr}
theorem FE{M:Model}{Q:Unit->Shared->Prop}{E:Zc}(I:Inv X J6 σ H s)(y:kf X J6 n)(st:X.stack=X.env::X.outer)(sf:X.env.frame=some X.env.locals)(fl:h_ n s.heap H a C od)
  (h:∀s',Inv X J6 σ H s'->h_ n s'.heap H a C od->Q () s'):wpAny M X.A (jK (.ref a) X.env) (fun _ s'=>wpAny M X.A (jI (.ref a) none) Q E s') E s:=by
 obtain⟨vs,T,e,z,tr,fT⟩:=fl.tr;have hsk:=I.stack;rw[st]at hsk;refine Hy (n:=n) (base:=X.base) (by rw[I.ok.frames,st]) hsk sf e rfl tr fun h' vs' oT ts fw q1 q2 q3 q4 q5=>?_;have z':1<vs'.size:=(eP.mp q2).1;have hfs:∀b∈mi (X.env::X.outer),H b=none:=fun b hb=>I.stkFree b (by rw[st];exact hb);have ok':=yF I.hok fl.trk fT hfs fw q1 z';have nT:∀t,T=some t->n<=t:=fun t ht=>by
  rcases tr with⟨_,q⟩|⟨t',_,_,q,_,l,_⟩
  ·rw[q]at ht;cases ht
  ·rw[q]at ht;cases ht;exact l
 have inC:∀b,b≠X.env.locals->b∉X.fs->b∉mi (X.env::X.outer):=fun b h1 h2 hb=>by
  unfold mi at hb;rw[nc,sf]at hb;exact(bw.mp hb).elim h1 h2
 have notA:∀b,H b=none->b≠a:=fun b hb q=>by rw[q,fl.trk]at hb;cases hb
 obtain⟨m0,⟨oL,esL,epL,hoL,rL⟩,_⟩:=id I.loc;have hLin:X.env.locals∈mi (X.env::X.outer):=by unfold mi;rw[nc,sf];exact cp
 have hLT:some X.env.locals≠T:=fun q=>absurd (nT _ q.symm) (fF y.loc);obtain⟨slL,hL'⟩:=fw.slot _ oL hoL (notA _ I.free) hLT hLin;refine h _ (I.step (g':=s.gens) (d':=s.drawn) (t':=s.toks) (ch:=T.toList) (fun b hb=>?_) (fun b o hL hf hc g hn=>?_) (fun b o hL hf hc g hn=>?_) (fun b o _ _ hn=>hn) (fun b o _ g=>fw.there b o g)
  (fun _ _ g=>g) (fun _ _ _ g=>g) (fun b ps g=>⟨#[],by rw[g];simp⟩) (fun m hm=>?_) ok' I.bare) ⟨fl.trk,fl.new,vs',some s.heap.objs.size,q1,z',.inr ⟨_,oT,ts,rfl,q2,?_,?_,q3,q4,q5⟩,fun t ht=>?_⟩
 ·have hT:T=some b:=by cases T with
   |none=>simp at hb
   |some t=>simp at hb;rw[hb]
  have ny:=nT b hT;exact⟨.inr (bj y.s0 ny),fun q=>absurd ny (fF (q▸y.loc)),fun x c g q=>absurd ny (fF (q▸y.cell x c g)),fun p hp q=>absurd ny (fF (q▸y.pin p hp))⟩
 ·exact fw.keep b o g (notA b hn) (fun q=>hc (by rw[<-q];simp)) (inC b hL hf)
 ·refine fw.slot b o g (notA b hn) (fun q=>hc (by rw[<-q];simp)) ?_;unfold mi;rw[nc,sf];exact cj _ hf
 ·obtain⟨o',es',ep',ho',r'⟩:=hm;rw[hoL]at ho';cases ho';exact⟨_,es',ep',hL',r'⟩
 ·exact bj (bj fl.new (ei (aM e))) (aN _)
 ·exact eK (aM e)
 ·cases ht;exact I.hok.fresh (aN _)
theorem Hz{M:Model}{Q:Unit->Shared->Prop}{E:Zc}(I:Inv X J6 σ H s)(y:kf X J6 n)(st:X.stack=X.env::X.outer)(sf:X.env.frame=some X.env.locals)(fl:h_ n s.heap H a C od)
  (h:∀s',Inv X J6 σ H s'->h_ n s'.heap H a C od->Q () s'):wpAny M X.A (leaving X.env (.ref a)) Q E s:=by
 unfold leaving;exact ao (FE I y st sf fl h)
def BW(P:bB)(w:World)(K:Za):C6:=fun outer H s E e s'=>∃a C od H',e=.ref a/\s'.os=s.os/\ma s'.gens/\Un (mi outer) [] H H' s.heap s'.heap/\ki P w K H' s'.heap/\h_ s.heap.objs.size s'.heap H' a C od/\E (.ref C) (some a) H'
def Lv(X:Cx)(E:XK):Prop:=∀(J6:Zd) (σ:St) (H:Hp) (s:Shared) (n:Nat) (a C:Addr) (od:Option Addr),Inv X J6 σ H s->kf X J6 n->h_ n s.heap H a C od->E (.ref C) (some a) H->X.xe (.ref a) s
theorem Lv.passes{E:XK}(l:Lv X E):mT (BW X.prog X.w X.K) X E:=fun J6 σ H s e s' I ⟨a,C,od,H',ea,os,bare,un,hok,fl,q⟩=>by
 subst ea;have I':=I.call' (s':=s') (ch:=[]) os un hok bare (fun b z=>absurd z (by simp));exact l J6 σ H' s' _ a C od I' I.young fl q
theorem sY{P:bB}{w:World}{K:Za}{mg:Str->Option Value}{base:Heap}{N:Zb}{qual:Str}{scope:Scope}{f:Addr}{cd:Value}{A:Around}{outer:List Env}{s:Shared}{H:Hp}{E:XK}:
  Lv (tG (BW P w K) P w K mg base N qual scope f cd A outer s H E) E:=fun J6 σ H' s' n a C od I y fl q=>by
 show wpAny _ _ _ _ _ _;refine Hz I y rfl rfl fl fun s'' I'' fl''=>⟨a,C,od,H',rfl,I''.os,I''.bare,I''.base,I''.hok,fl''.mono y.s0,q⟩
end
abbrev jO:List Value:=[.type "ValueError",.type "Exception",.type "BaseException",.type "object"]
inductive eT:List Value->Prop
 |base:eT jO
 |own {a:Addr}{r:Zf}:eT r->eT (.ref a::r)
theorem eT.has{l:Zf}(x:eT l){n:String}{b:Bool}(e:jO.contains (.type n)=b):l.contains (.type n)=b:=by
 induction x with
 |base=>exact e
 |own _ ih=>rw[jf,ih];rfl
section
variable{prog:bB}{w:World}{A:Around}{E:Zc}{h:Heap}{g:Array GenState}{d:Drawn}{t:Nat}{os:OsState}
variable{nm q:Str}{C N:Addr}{bs bm:Zf}{hdct:Bool}{sn:Zb}{sub:Zf}{ab:Bool}{col:Option Bool}{dd:Option Addr}{k0 k1 k2 k3 k5:Option Value}
theorem FG{M:Model}(hv:eT bm){us:Zf}{Q:Unit->Shared->Prop}(hC:h.get? C=some (gX nm q C N bs bm hdct sn sub ab col dd k0 k1 k2 k3 k5 "ValueError.__new__"))
  (hq:Q () ⟨h,g,d,t,os⟩):wpAny M A (vy "ValueError.__new__" ⟨.ref C::us,[]⟩) Q E ⟨h,g,d,t,os⟩:=by
 have G:=PySem.F.excBase_ValueError;have c1:(Value.ref C::bm).contains (.type "ValueError")=true:=by rw[jf,hv.has (b:=true) (by decide +kernel)];rfl
 have c2:=G.noStar;simp only[vy,G.newKind,G.newSplit,G.newRow]
 repeat (first|refine jH hC ?_|(refine rP hC ?_;rw[c1])|refine wpAny_staticBase_exc hC ?_|refine wpAny_madeBy_exc hC ?_|simp only[bne_self_eq_false,uG,if_false] | wp_step)
 exact hq
theorem Jb{R:Result->Shared->Prop}(hv:eT bm){us:Zf}(hC:h.get? C=some (gX nm q C N bs bm hdct sn sub ab col dd k0 k1 k2 k3 k5 "ValueError.__new__"))(hz:us.length<=aj)
  (hq:R (.ok (.ret (.ref (h.objs.size+1)))) ⟨(h.push { cls:=.type "tuple",data:=.seq us.toArray }).push { cls:=.ref C,data:=.fields #[.ref h.objs.size,.none,.none,.none,.bool false,.none] },g,d,t,os⟩) :
  zzl83 (model prog w) A (.builtin "ValueError.__new__" ⟨.ref C::us,[]⟩) R ⟨h,g,d,t,os⟩:=by
 have G:=PySem.F.excBase_ValueError;have c0:=G.ends;have c1:(Value.ref C::bm).contains (.type "ValueError")=true:=by rw[jf,hv.has (b:=true) (by decide +kernel)];rfl
 have c2:(Value.ref C::bm).contains (.type "AttributeError")=false:=by rw[jf,hv.has (b:=false) (by decide +kernel)];rfl
 have c3:(Value.ref C::bm).contains (.type "NameError")=false:=by rw[jf,hv.has (b:=false) (by decide +kernel)];rfl
 refine codeAny_builtinAt G.entry ?_;unfold cO.«BaseException.__new__»;refine PySem.wpAt_bind ?_;show PySem.wpAt _ _ _ (stack >>= _) _ _ _;refine PySem.wpAt_bind (PySem.wpAt_stack fun p below=>PySem.wpAt_of_wpAny ?_)
 wp_walk
 refine PySem.wpAt_of_wpAny ?_;rw[G.owner]
 repeat (first|with_reducible refine wpAny_madeHere_exc G.canon hC ?_|with_reducible refine jH hC ?_|(with_reducible refine rP hC ?_;first|rw[c1] | rw[c2] | rw[c3])|wp_step)
 show R _ _;rw[kq];exact hq
theorem FC(hv:eT bm){us:Zf}{fI:Addr}{oI:Obj}{Q:Fin->Shared->Prop}(hC:h.get? C=some (gX nm q C N bs bm hdct sn sub ab col dd k0 k1 k2 k3 k5 "ValueError.__new__"))
  (hi:PySem.W.Looks (model prog w) h (oK (.ref C) "__init__") (some (.ref fI))) (hfI:h.get? fI=some oI) (hfc:oI.cls=.type "function") (hz:us.length<=aj)
  (hq:∀h',(∀b o,h.get? b=some o->h'.get? b=some o)->h'.objs.size=h.objs.size+2->h'.get? (h.objs.size+1)=some { cls:=.ref C,data:=.fields #[.ref h.objs.size,.none,.none,.none,.bool false,.none] } ->
   wpAny (model prog w) A (call (.ref fI) (.ref (h.objs.size+1)::us)) (fun r s'=>r=.none/\Q (.done (.ret (.ref (h.objs.size+1)))) s') E ⟨h',g,d,t,os⟩) :
  wpAny (model prog w) A (cO.«type.__call__» ⟨.ref C::us,[]⟩) Q E ⟨h,g,d,t,os⟩:=by
 repeat (first|with_reducible refine jH hC ?_|with_reducible refine wpAny_madeBy_exc hC ?_|wp_step)
 refine codeAny_call_builtin_code (Code.quiet_builtin _ PySem.F.excBase_ValueError.quiet) (FG hv hC (Jb hv hC hz ?_));show wpAny _ _ _ _ _ _;have kp:∀b o,h.get? b=some o->((h.push { cls:=.type "tuple",data:=.seq us.toArray }).push { cls:=.ref C,data:=.fields #[.ref h.objs.size,.none,.none,.none,.bool false,.none] }).get? b=some o :=
  fun b o e=>bb _ (bb _ e)
 have C1:=kp _ _ hC;have gt:((h.push { cls:=.type "tuple",data:=.seq us.toArray }).push { cls:=.ref C,data:=.fields #[.ref h.objs.size,.none,.none,.none,.bool false,.none] }).get? (h.objs.size+1)
  =some { cls:=.ref C,data:=.fields #[.ref h.objs.size,.none,.none,.none,.bool false,.none] }:=by heap_get
 have cC:(Value.ref C::bm).contains (.ref C)=true:=by simp
 unfold xQ
 repeat (first|with_reducible refine jH gt ?_|(with_reducible refine rP C1 ?_;rw[cC])|wp_step)
 show wpAny _ _ (oK (.ref C) _) _ _ _;refine hi _ _ _ _ kp ?_;refine kE (ao ?_);unfold bindSpecial;refine ao (wpAny_typeOf (T:="function") ⟨_,kp _ _ hfI,hfc⟩ ?_);rw[if_pos (by decide)];refine a_ (ao (bU (hq _ kp (by rw[kq,kq]) gt) (fun r s' hr=>?_) fun _ _ x=>x));obtain⟨rfl,hQ⟩:=hr
 wp_walk
 exact hQ
theorem HA(hv:eT bm){us:Zf}{fI:Addr}{oI:Obj}{Q:Zc}(hC:h.get? C=some (gX nm q C N bs bm hdct sn sub ab col dd k0 k1 k2 k3 k5 "ValueError.__new__"))
  (hi:PySem.W.Looks (model prog w) h (oK (.ref C) "__init__") (some (.ref fI))) (hfI:h.get? fI=some oI) (hfc:oI.cls=.type "function") (hz:us.length<=aj)
  (hq:∀h',(∀b o,h.get? b=some o->h'.get? b=some o)->h'.objs.size=h.objs.size+2->h'.get? (h.objs.size+1)=some { cls:=.ref C,data:=.fields #[.ref h.objs.size,.none,.none,.none,.bool false,.none] } ->
   wpAny (model prog w) (A.under (.builtin "type.__call__" ⟨.ref C::us,[]⟩)) (call (.ref fI) (.ref (h.objs.size+1)::us)) (fun r s'=>r=.none/\Q (.ref (h.objs.size+1)) s') E ⟨h',g,d,t,os⟩) :
  wpAny (model prog w) A (call (.ref C) us) Q E ⟨h,g,d,t,os⟩:=by
 have f1:=tc_lookup;have f2:=tc_bind (.ref C);have hT:(⟨h,g,d,t,os⟩:Shared).TypeIs (.ref C) "type":=⟨_,hC,rfl⟩;refine rB (codeAny_of_tree ?_);show wpAny _ _ (callAny (.ref C) _) _ _ _
 repeat (any_goals (first|assumption|with_reducible refine jH hC ?_|wp_step))
 exact⟨rfl,codeAny_call_builtin_at (Code.quiet_builtin _ (by decide +kernel)) entry_typeCall (wpAny_check_type_call_sub hC (FC hv hC hi hfI hfc hz fun h' a1 a2 a3=>hq h' a1 a2 a3))⟩
end
structure j3(K:Za)(C:Addr):Prop where
 obj:∃nm q N bs bm sn sub ab col dd k0 k1 k2 k3 k5,K.lookup C=some (gX nm q C N bs bm true sn sub ab col dd k0 k1 k2 k3 k5 "ValueError.__new__")/\eT bm
 sa:bW K (.ref C) "__setattr__"=some (some (.builtin "object.__setattr__"))
 ga:bW K (.ref C) "__getattribute__"=some (some (.builtin "BaseException.__getattribute__"))
 gx:bW K (.ref C) "__getattr__"=some none
theorem j3.cd{K:Za}{C:Addr}(c:j3 K C):∃cd,PySem.W.clsIn K C=some cd/\eT cd.mro/\cd.hasDict=true:=by
 obtain⟨nm,q,N,bs,bm,sn,sub,ab,col,dd,k0,k1,k2,k3,k5,e,v⟩:=c.obj;exact⟨_,by unfold PySem.W.clsIn;rw[e],.own v,rfl⟩
theorem eT.ne{l:Zf}(x:eT l):l.isEmpty=false:=by cases x<;>rfl
theorem yg(self:Value){l:Zf}(x:eT l):refuseLoop self "__setattr__" l=pure ():=by
 induction x with
 |base=>exact PySem.F.store_ValueError.passes self
 |own _ ih=>rw[refuseLoop_ref];exact ih
section
variable{prog:bB}{w:World}{A:Around}{E:Zc}{s:Shared}{K:Za}{x C:Addr}{od:Option Addr}{vs:Array Value}{name:Str}{v:Value}
open PySem.W
theorem GQ{M:Model}{h:Heap}{cd:ClassData}(X:K.In h)(hc:clsIn K C=some cd)(hv:eT cd.mro){n:String}(hn:jO.contains (.type n)=true):Looks M h (isSubtype (.ref C) (.type n)) true :=
 looks_mroIn X (by unfold mroIn;rw[hc,Option.bind_some,if_neg (by rw[hv.ne];decide),hv.has hn])
theorem Hw{M:Model}{h:Heap}(hx:h.get? x=some { cls:=.ref C,dict:=od,data:=.fields vs }):Looks M h (typeOf (.ref x)) (.ref C):=(Looks.ld hx).andThen .now
theorem FH{us:Zf}{Q:Zc}(X:K.In s.heap)(c:j3 K C)(hx:s.heap.get? x=some { cls:=.ref C,dict:=od,data:=.fields vs })(hz:us.length<=aj)(h0:0<vs.size)
  (h:∀h',(∀b o,b≠x->s.heap.get? b=some o->h'.get? b=some o)->h'.get? x=some { cls:=.ref C,dict:=od,data:=.fields (vs.setIfInBounds 0 (.ref s.heap.objs.size)) }->Q .none { s with heap:=h' }) :
  wpAny (model prog w) A (call (.builtin "ValueError.__init__") (.ref x::us)) Q E s:=by
 obtain⟨nm,q,N,bs,bm,sn,sub,ab,col,dd,k0,k1,k2,k3,k5,e,hv⟩:=c.obj;have G:=PySem.F.excBase_ValueError;have hC:=X _ _ e;have c1:(Value.ref C::bm).contains (.type "ValueError")=true:=by rw[jf,hv.has (b:=true) (by decide +kernel)];rfl
 have c2:=G.noStar;obtain⟨hh,g,d,t,os⟩:=s;dsimp only at hx hC;refine rB (codeAny_call_builtin G.init.plain G.initEntry ?_);have ck:∀(Q':Unit->Shared->Prop),Q' () ⟨hh,g,d,t,os⟩->wpAny (model prog w) A.in1 (vy "ValueError.__init__" ⟨.ref x::us,[]⟩) Q' (fun e s'=>match (Except.error e:Result)with | .ok (.ret v)=>Q v s' | .ok _=>False | .error e=>E e s') ⟨hh,g,d,t,os⟩:=fun Q' hq=>by
  simp only[vy,G.initKind,G.initSplit,G.initRow]
  repeat (first|with_reducible refine jH hx ?_|with_reducible refine jH hC ?_|(with_reducible refine rP hC ?_;rw[c1])|wp_step)
  refine rS ?_;rw[show ∀(a b:String) (n:Nat),Bind.check ⟨.positional,"*","ValueError",.self,[⟨"args",.varPos,false⟩]⟩ a b n (List.map (fun y=>y.fst) ({ pos:=Value.ref x::us }:Args).kw)=pure ()from fun a b n=>check_star_args _ _ _ _ _ _];exact a_ hq
 refine ck _ ?_;unfold cO.«BaseException.__init__»;have hx1:(hh.push { cls:=.type "tuple",data:=.seq us.toArray }).get? x=some { cls:=.ref C,dict:=od,data:=.fields vs }:=bb _ hx;obtain⟨v0,e0⟩:∃v0,vs[0]?=some v0:=⟨vs[0],by simp[h0]⟩
 wp_walk
 rw[e0];have fin:Q .none ⟨(hh.push { cls:=.type "tuple",data:=.seq us.toArray }).update x (cY (·.setIfInBounds 0 (.ref hh.objs.size))),g,d,t,os⟩:=by
  refine h _ (fun b o nb e=>?_) ?_
  ·rw[fj _ _ (cW nb)];exact bb _ e
  ·rw[g8 _ hx1 rfl];rfl
 refine a_ (ao (jg hx1 rfl h0 ?_));cases v0<;>first|exact vE (a_ fin)|exact a_ (a_ fin)
theorem Dh{h:Heap}{dx:Addr}{odx:Obj}(hx:h.get? x=some { cls:=.ref C,dict:=some dx,data:=.fields vs })(hd:h.get? dx=some odx):InstAt h x { cls:=.ref C,dict:=some dx,data:=.fields vs } C (some odx):=⟨hx,rfl,rfl,hd⟩
theorem FF{h:Heap}(hx:h.get? x=some { cls:=.ref C,dict:=none,data:=.fields vs }):InstAt h x { cls:=.ref C,dict:=none,data:=.fields vs } C none:=⟨hx,rfl,rfl,eg⟩
theorem Ja{R:Result->Shared->Prop}{ox:Obj}{od:Option Obj}{tk:Tok}(X:K.In s.heap)(c:j3 K C)(I:InstAt s.heap x ox C od)(ht:takerIn K C name=some none)
  (h:∀b,wpAny (model prog w) A.in1 (cO.ObjectAttr.storeInOwnDict (.ref x) (.ref C) (.str name tk) name v b) (fun fin s'=>match fin with | .done f=>R (.ok f) s' | .again c'=>c'.quiet=true/\zzl83 (model prog w) A c' R s') (fun e s'=>R (.error e) s') s) :
  zzl83 (model prog w) A (.call (.builtin "object.__setattr__") ⟨[.ref x,.str name tk,v],[]⟩) R s:=by
 have SF:=PySem.F.store_object;obtain⟨cd,hc,hv,_⟩:=c.cd;have sub:Looks (model prog w) s.heap (xQ (.ref x) (.type "object")) true:=I.type.andThen (GQ X hc hv (by decide +kernel));refine codeAny_call_builtin SF.slot.plain SF.entry (@check_slot (model prog w) _ _ s "object.__setattr__" "object" "__setattr__" (.ref x) [.str name tk,v] [] _ SF.kind SF.split sub (SF.args (.ref x) (.str name tk) v) ?_);obtain⟨attr,ha,hr⟩:=Option.bind_eq_some_iff.mp ht;have hm:Looks (model prog w) s.heap (mroOf (.ref C)) cd.mro:=(looks_clsIn X hc).andThen .now;have L3:Looks (model prog w) s.heap (cO.ObjectAttr.storeTaker? attr) none:=by
  cases attr with
  |none=>exact .now
  |some a =>
   obtain⟨b,hb,e⟩:=rY.mp hr;refine(looks_takesIn X hb).andThen ?_;cases b with
   |true=>cases e
   |false=>exact .now
 rw[osa_eq,refuse_eq];refine ao (ao (I.type.here (ao (hm.here ?_))));rw[yg _ hv];refine a_ (ao (I.type.here (ao ((looks_findIn X ha).here (ao (L3.here ?_))))));exact h _
theorem B2{Q:Unit->Shared->Prop}(X:K.In s.heap)(c:j3 K C)(hx:s.heap.get? x=some { cls:=.ref C,dict:=none,data:=.fields vs })(ht:takerIn K C name=some none)
  (h:∀h' tk,(∀b o,b≠x->s.heap.get? b=some o->h'.get? b=some o)->h'.get? x=some { cls:=.ref C,dict:=some s.heap.objs.size,data:=.fields vs } ->
   h'.Ns1 s.heap.objs.size (fun y=>if y=name then some v else none)->Q () { s with heap:=h',toks:=tk }) :
  wpAny (model prog w) A (setAttr (.ref x) name v) Q E s:=by
 obtain⟨cd,hc,_,hd⟩:=c.cd;have I:=FF hx;refine set_plain X I c.sa (Ja (s:={ s with toks:=s.toks+1 }) X c I ht fun b=>?_);obtain⟨hh,g,d,t,os⟩:=s;dsimp only at hx I X;have hx1:(hh.push { cls:=.type "dict",data:=.dict #[] }).get? x=some { cls:=.ref C,dict:=none,data:=.fields vs }:=bb _ hx;have xs:x≠hh.objs.size:=cx (aM hx);refine ao (a_ (ao (ao (wpAny_loadPart hx (ao ((looks_clsIn X hc).here ?_))))));rw[hd];refine ao (wpAny_alloc' (ao (wpAny_update' hx1 ?_)));refine a_ ?_;have gd:((hh.push { cls:=.type "dict",data:=.dict #[] }).update x fun o=>{ o with dict:=some hh.objs.size }).get? hh.objs.size=some { cls:=.type "dict",data:=.dict #[] } :=
  (fj _ _ xs).trans (Heap.get?_push_at rfl rfl)
 have nd:((hh.push { cls:=.type "dict",data:=.dict #[] }).update x fun o=>{ o with dict:=some hh.objs.size }).Ns hh.objs.size (fun _=>none):=⟨_,#[],_,gd,rfl,fun e he=>absurd he (by simp),fun _=>rfl⟩;show wpAny _ _ (vx hh.objs.size (.str name _) name v) _ _ _;unfold vx cO.ObjectAttr.newKeyGuard;refine ao (a_ (ao (wpAny_nsSet1 (Heap.Ns1.of_empty nd) fun h' hn' hs=>?_)));obtain⟨oD,esD,epD,hoD,hdD,hcD⟩:=hn'.count (Within.cons name v Within.nil);refine ao (wpAny_lookBehind hoD (by rw[hdD];exact pastItsLine_dict (bj hcD (by rw[cw,rZ,AO];omega))) ?_);refine a_ (h h' _ (fun b o nb e=>?_) ?_ hn')
 ·exact(hs.2 b (cx (aM e))).trans ((fj _ _ (cW nb)).trans (bb _ e))
 ·exact(hs.2 x xs).trans (g8 _ hx1 rfl)
theorem B1{Q:Unit->Shared->Prop}{dx:Addr}{mA:Str->Option Value}{ns:Zb}(X:K.In s.heap)(c:j3 K C)(hx:s.heap.get? x=some { cls:=.ref C,dict:=some dx,data:=.fields vs })(hn:s.heap.Ns1 dx mA)
  (hw:Within mA ns) (hz:ns.length<aj) (ht:takerIn K C name=some none)
  (h:∀h' tk,(∀b o,b≠dx->s.heap.get? b=some o->h'.get? b=some o)->h'.Ns1 dx (fun y=>if y=name then some v else mA y)->Q () { s with heap:=h',toks:=tk }) :
  wpAny (model prog w) A (setAttr (.ref x) name v) Q E s:=by
 obtain⟨cd,hc,_,hd⟩:=c.cd;obtain⟨odx,ho,_⟩:=pD hn;have I:=Dh hx ho;refine set_plain X I c.sa (Ja (s:={ s with toks:=s.toks+1 }) X c I ht fun b=>?_);obtain⟨hh,g,d,t,os⟩:=s;dsimp only at hx I X hn;refine ao (a_ (ao (ao (wpAny_loadPart hx (ao ((looks_clsIn X hc).here ?_))))));rw[hd];refine a_ (a:=some dx) ?_;show wpAny _ _ (vx dx (.str name _) name v) _ _ _;unfold vx cO.ObjectAttr.newKeyGuard;refine ao (a_ (ao (wpAny_nsSet1 hn fun h' hn' hs=>?_)));obtain⟨oD,esD,epD,hoD,hdD,hcD⟩:=hn'.count (Within.cons name v hw);refine ao (wpAny_lookBehind hoD (by rw[hdD];exact pastItsLine_dict (bj hcD (by rw[cw];omega))) ?_);exact a_ (h h' _ (fun b o nb e=>(hs.2 b nb).trans e) hn')
theorem xget{Q:Zc}{dx:Addr}{mA:Str->Option Value}{expr:Bool}(X:K.In s.heap)(c:j3 K C)(hx:s.heap.get? x=some { cls:=.ref C,dict:=some dx,data:=.fields vs })(hn:s.heap.Ns1 dx mA)
  (ha:findIn K (.ref C) name=some none) (hv:mA name=some v) (hh:handedIn v=true) (h:Q v { s with toks:=s.toks+1 }):wpAny (model prog w) A (xM (.ref x) name expr) Q E s:=by
 obtain⟨cd,hc,hve,hd⟩:=c.cd;obtain⟨odx,ho,hl⟩:=pD hn;have I:=Dh hx ho;have G:=PySem.F.attrBase_ValueError;obtain⟨hp,g,d,t,os⟩:=s;dsimp only at hx I X;have L0:=I.type (M:=model prog w);have L1:=looks_findIn (M:=model prog w) X c.ga;have L2:=looks_findIn (M:=model prog w) X c.gx;have hf:findObj K C (some odx) name=some (.value v):=findObj_own (by unfold hasDictIn;rw[hc];exact hd) ha rfl (by rw[hl,hv]);have L3:=looks_find (M:=model prog w) X I hf;have sub:Looks (model prog w) hp (xQ (.ref x) (.type "BaseException")) true:=L0.andThen (GQ X hc hve (by decide +kernel));unfold xM getAttrBy;refine ao (wpAny_mkText (kE (ao (L0.at (ao (L1.at ?_))))));have ne:(onTheHeap (Value.ref C) && ze "BaseException.__getattribute__"==ze "object.__getattribute__")=false:=by
  rw[show(ze "BaseException.__getattribute__"==ze "object.__getattribute__")=false from by decide +kernel,vC]
 dsimp only;rw[ne,if_neg (by decide)];have hb:Looks (model prog w) hp (hookBefore (.ref C)) none:=L2;refine ao (hb.at (ao (wpAny_attempt (kE ?_))));unfold callGetattribute;rw[show(expr && onTheHeap (ze "BaseException.__getattribute__"))=false from vC _,if_neg (by decide)];unfold boundAndCalled;rw[G.ga.bind];refine ao (a_ ?_);show wpAny _ _ (call (.builtin "BaseException.__getattribute__") [.ref x,.str name _]) _ _ _;refine rB (codeAny_call_builtin G.ga.plain PySem.F.entry_bexc_ga ?_);refine @check_slot (model prog w) _ _ _ "BaseException.__getattribute__" "BaseException" "__getattribute__" (.ref x) [.str name _] [] _ (by decide +kernel) (by decide +kernel) sub (PySem.F.args_bexc_ga _ _) ?_;unfold cO.«object.__getattribute__»;refine ao (a_ (ao (a_ (ao (L0.at (ao (L3.at ?_)))))));refine a_ ?_;show wpAny _ _ (handedOut v) _ _ _;rw[handedOut_of hh];exact a_ h
end
theorem upd_id{H:Hp}{a:Addr}{o:HO}(e:H a=some o):upd H a o=H:=by
 funext b;unfold upd;split
 ·rename_i q;rw[q,e]
 ·rfl
def iM(d:Addr)(fs:List (Str×V)):Heap->Prop:=fun h=>∃mA,h.Ns1 d mA/\∀f,iN (fs.lookup f) (mA f)
theorem xR{P:bB}{w:World}{K:Za}{H:Hp}{h:Heap}{d:Addr}{fs:List (Str×V)}{mA:Str->Option Value}(n:h.Ns1 d mA)(r:∀f,iN (fs.lookup f) (mA f)):cL P w K H h d (.ext (iM d fs)):=by
 refine⟨⟨mA,n,r⟩,?_,fun h1 h2 ⟨m,⟨o,es,ep,e,q⟩,z⟩ k=>⟨m,⟨o,es,ep,k _ e,q⟩,z⟩⟩;obtain⟨o,es,ep,e,_⟩:=n;exact⟨o,e⟩
structure Hq(K:Za)(T:Addr):Prop where
 rd:PySem.W.readsIn K T (.type "type")=true
 fi:PySem.W.findCls K (.ref T) (.type "type") "__init__"=some (.val (.builtin "ValueError.__init__"))
 ga:AL K (.ref T) "__getattribute__"=some (some (.builtin "type.__getattribute__"))
section
variable{X:Cx}{J6:Zd}{σ:St}{H:Hp}{s:Shared}{a C:Addr}{od:Option Addr}
theorem Inv.exc(I:Inv X J6 σ H s)(e:H a=some (.ext (hV a C od))):∃vs,s.heap.get? a=some { cls:=.ref C,dict:=od,data:=.fields vs }/\1<vs.size:=(I.hok a _ e).1
theorem Inv.excN(I:Inv X J6 σ H s)(e:H a=some (.ext (cT a C od))):∃vs,s.heap.get? a=some { cls:=.ref C,dict:=od,data:=.fields vs }/\vs[1]?=some .none:=(I.hok a _ e).1
def zL(K:Za)(t:TA):TE:=fun σ H Q=>t σ H fun vs H1=>∃a C od us,vs=.ref a::us/\H1 a=some (.ext (cT a C od))/\j3 K C/\us.length<=aj/\Q .non H1
theorem yt{T:Addr}{x:Str}{p J8 pos:Pos}{e:Expr}{es:List Expr}{t:TA}{pl:Sem Bool}(B:Hq X.K T)(hg:Gl X x)(hm:X.mg x=some (.ref T))(ha:PA X (e::es) t)(hdb:(x==("__debug__":Str))=false:=by decide)
  (hst:aB (e::es) X.env=(false,eval e X.env)::aB es X.env:=by rfl) (hpl:(backTo pos (aB es X.env)).any (·.1)=false:=by rfl)
  (ht:eval (.Call (.Attribute (.Name x p) "__init__" J8) (e::es) [] pos) X.env=(do
   let ov <- eval (.Name x p) X.env
   uF J8.atName
   let(f,first) <- m_ [ov] (uD ov "__init__" pl)
   vS pos f first (backTo pos (aB (e::es) X.env)) (oR pos (oQ [] X.env))):=by rfl) :
  PE X (.Call (.Attribute (.Name x p) "__init__" J8) (e::es) [] pos) (zL X.K t):=by
 intro J6 s σ H Q I h;refine PySem.W.methodCall_KW (pl:=pl) (ib I hg hm ?_ hdb) ht;refine PySem.W.method_cls I.kIn B.ga (PySem.W.cls_value I.kIn B.rd B.fi rfl ?_);refine callWith_builtin1 (cM (ha pos J6 _ σ H _ (I.tok _) h) fun us s1 ⟨vs,H1,I1,r,a,C,od,us',ev,e1,c,hz,q⟩=>?_) hst hpl;subst ev;cases r with
 |cons ra rr =>
  obtain rfl:=(show _=Value.ref a from ra);obtain⟨ws,ew,e1'⟩:=I1.excN e1;have h0:0<ws.size:=fE Nat.zero_lt_one (ei (eP.mp e1').1);refine FH I1.kIn c ew (by rw[<-rr.length];exact hz) h0 fun h' kp gx=>⟨.non,H1,?_,rfl,q⟩;have z:=I1.write (x:=a) (e:=a) (o:=.ext (cT a C od)) (h':=h') (t':=s1.toks) (by rw[e1];exact eg) (.inl rfl) (fun b u nb g=>kp b u nb g) ⟨_,gx⟩ (pM gx (by rw[Array.getElem?_setIfInBounds_ne (by decide)];exact e1'));rw[upd_id e1]at z;exact z
def Be(K:Za)(ta tv:TE)(f:Str):TS:=fun D σ H=>tv σ H fun y H1=>ta σ H1 fun x H2=>∃a C,x=.ref a/\j3 K C/\c9 K C f /\
  ((H2 a=some (.ext (cT a C none))/\∀d,H2 d=none->d≠a->D.nx σ (upd (upd H2 d (.ext (iM d [(f,y)]))) a (.ext (cT a C (some d))))) ∨
   (∃d fs,H2 a=some (.ext (cT a C (some d)))/\H2 d=some (.ext (iM d fs))/\fs.length<1000/\D.nx σ (upd H2 d (.ext (iM d (c7 f y fs))))))
theorem wq{o value:Expr}{f:Str}{pos pos':Pos}{ta tv:TE}(ha:PE X o ta)(hv:PE X value tv)(hs:l_ value (some (.Attribute o f pos')) pos.line X.env=pure false):PS X (.Assign [.Attribute o f pos'] value pos) (Be X.K ta tv f):=by
 intro J6 s σ H D I h;refine plainObj_wpAny_Assign_Attribute (cM (hv J6 s σ H _ I h) fun u s1 ⟨y,H1,I1,ry,q⟩=>cM (ha J6 s1 σ H1 _ I1 q) fun ov s2 ⟨x,H2,I2,rx,a,C,ex,c,n,q2⟩=>?_) hs;subst ex;obtain rfl:ov=Value.ref a:=rx;rcases q2 with⟨e,q2⟩|⟨d,fs,e,ed,hl,q2⟩
 ·obtain⟨vs,g,g1⟩:=I2.excN e;refine B2 I2.kIn c g n.taker fun h' tk kp gx gd=>?_;have nd:s2.heap.objs.size≠a:=eK (aM g);have hn:H2 s2.heap.objs.size=none:=I2.hok.fresh (aN _);have other:∀b u,H2 b=some u->(∀φ,u≠.ext φ)->b≠a:=fun b u z nz w'=>nz _ (by rw[w',e]at z;exact(dX z).symm);have nw:∀b,b≠a->b≠s2.heap.objs.size->upd (upd H2 s2.heap.objs.size (.ext (iM s2.heap.objs.size [(f,y)]))) a (.ext (cT a C (some s2.heap.objs.size))) b=H2 b:=fun b h1 h2=>by rw[ai h1,ai h2]
  have fr:∀b u,H2 b=some u->b≠s2.heap.objs.size:=fun b u z w'=>by rw[w',hn]at z;cases z
  have un:Un X.fs [] H2 (upd (upd H2 s2.heap.objs.size (.ext (iM s2.heap.objs.size [(f,y)]))) a (.ext (cT a C (some s2.heap.objs.size)))) s2.heap h':=by
   have na:∀b,H2 b=none->b≠a:=fun b z w'=>by rw[w',e]at z;cases z
   refine⟨fun b o z zn _ _=>kp b o (na b zn) z,fun b o z zn _ _=>⟨o.slots,kp b o (na b zn) z⟩,fun b o z zn _=>by rw[nw b (na b zn) (cx (aM z))];exact zn,fun b o z _=>?_,
    fun b xs z=>by rw[nw b (other b _ z (by intro φ w';cases w')) (fr b _ z)];exact z,fun b ob u z=>by rw[nw b (other b _ z (by intro φ w';cases w')) (fr b _ z)];exact z,
    fun b ps z=>⟨#[],by rw[nw b (other b _ z (by intro φ w';cases w')) (fr b _ z),z];simp⟩⟩
   by_cases hb:b=a
   ·rw[hb];exact⟨_,gx⟩
   ·exact⟨o,kp b o hb z⟩
  have ok:ki X.prog X.w X.K (upd (upd H2 s2.heap.objs.size (.ext (iM s2.heap.objs.size [(f,y)]))) a (.ext (cT a C (some s2.heap.objs.size)))) h':=fun b u z=>by
   by_cases hb:b=a
   ·subst hb;rw[aa]at z;cases z;exact pM gx g1
   ·by_cases hd:b=s2.heap.objs.size
    ·subst hd;rw[ai hb,aa]at z;cases z;refine xR gd fun g'=>?_;show iN (iW g' [(f,y)]) _;by_cases q:g'=f
     ·rw[q,if_pos rfl];simp[iW];exact ry
     ·rw[if_neg q];have:(g'==f)=false:=beq_eq_false_iff_ne.mpr q;simp only[iW,this];exact eg
    ·rw[nw b hb hd]at z;refine(I2.hok b u z).stay (fun c' v hc z'=>kp c' v ?_ z') (fun c' z'=>by rw[nw c' (other c' _ z' (by intro φ w';cases w')) (fr c' _ z')];exact z') fun c' xs z'=>by rw[nw c' (other c' _ z' (by intro φ w';cases w')) (fr c' _ z')];exact z'
     rcases hc with rfl|hc
     ·exact hb
     ·exact other c' _ hc (by intro φ w';cases w')
  exact⟨σ,_,I2.un (t':=tk) un ok,q2 _ hn nd⟩
 ·obtain⟨vs,g,g1⟩:=I2.excN e;obtain⟨mA,nA,rA⟩:=(I2.hok d _ ed).1;have wi:xP mA (fs.map (·.1)):=fun g' hg=>by
   have r:=rA g';cases q:fs.lookup g' with
   |none=>rw[q]at r;exact absurd (iN.none_of r) hg
   |some y'=>exact aO.mpr ⟨(g',y'),oP q,rfl⟩
  refine B1 I2.kIn c g nA wi (by rw[am,AO];omega) n.taker fun h' tk kp gd=>?_;have hd':∃o,h'.get? d=some o:=let⟨o,_,_,e',_⟩:=gd;⟨o,e'⟩;refine⟨σ,_,I2.write (x:=d) (e:=d) (h':=h') (t':=tk) (by rw[ed];exact eg) (.inl rfl) (fun b u nb z=>kp b u nb z) hd' (xR gd fun g'=>?_),q2⟩;rw[eG];by_cases q:g'=f
  ·rw[if_pos q,if_pos q];exact ry
  ·rw[if_neg q,if_neg q];exact rA g'
def A9(K:Za)(ta:TE)(f:Str):TE:=fun σ H Q=>ta σ H fun x H1=>∃a C d fs v,x=.ref a/\H1 a=some (.ext (hV a C (some d)))/\H1 d=some (.ext (iM d fs))/\j3 K C/\c9 K C f/\fs.lookup f=some v/\Q v H1
theorem wv{e:Expr}{f:Str}{pos:Pos}{ta:TE}(he:PE X e ta)(hb:uB e f X.env (eval e X.env)=eval e X.env):PE X (.Attribute e f pos) (A9 X.K ta f):=by
 intro J6 s σ H Q I h;refine BP hb (cM (he J6 s σ H _ I h) fun u s1 ⟨x,H1,I1,rx,a,C,d,fs,v,ex,ea,ed,c,n,l,q⟩=>?_);subst ex;obtain rfl:u=Value.ref a:=rx;obtain⟨vs,g,_⟩:=I1.exc ea;obtain⟨mA,nA,rA⟩:=(I1.hok d _ ed).1;obtain⟨u',hu,ru⟩:=iN.some_of (v:=v) (o:=mA f) (by rw[<-l];exact rA f);exact xget I1.kIn c g nA n hu (u9 ru) ⟨v,H1,I1.tok _,ru,q⟩
end
section
variable{M:Model}{A:Around}{E:Zc}{s:Shared}{env:Env}{nm q:Str}{C N a:Addr}{bs bm:Zf}{hdct:Bool}{sn:Zb}{sub:Zf}{ab:Bool}{col:Option Bool}{dd od:Option Addr}{k0 k1 k2 k3 k5:Option Value}{newId:String}{vs:Array Value}
theorem A2{x:Sem Value}{Q:Flow->Shared->Prop}(hv:eT bm)(hh:A.handled=none)
  (h:wpAny M A x (fun v s1=>∃a od vs,v=.ref a/\s1.heap.get? C=some (gX nm q C N bs bm hdct sn sub ab col dd k0 k1 k2 k3 k5 newId)/\s1.heap.get? a=some { cls:=.ref C,dict:=od,data:=.fields vs }/\vs[1]?=some .none/\E (.ref a) s1) E s) :
  wpAny M A (raiseStmt env (some x) none) Q E s:=by
 have cB:(Value.ref C::bm).contains (.type "BaseException")=true:=by rw[jf,hv.has (b:=true) (by decide +kernel)];rfl
 unfold raiseStmt;refine ao (bU h (fun v s1 h1=>?_) fun _ _ y=>y);obtain⟨a,od,vs,rfl,hC,ha,h0,hE⟩:=h1;obtain⟨hp,g,d,tk,os⟩:=s1
 repeat (first|with_reducible refine cq ha rfl h0 ?_|with_reducible refine jH ha ?_|with_reducible refine jH hC ?_|(with_reducible refine rP hC ?_;rw[cB])|wp_step)
 exact wpAny_raiseNew_none hh hE
end
section
variable{X:Cx}{J6:Zd}{σ:St}{H:Hp}{s:Shared}{C f:Addr}{k:Nat}{fd:hZ}{ps:Zb}{sp:Sp}
theorem uQ{us:Zf}{vs:List V}{QH:Hp->Prop}(c:j3 X.K C)(hi:bW X.K (.ref C) "__init__"=some (some (.ref f)))(hf:m8 X.K (.ref f)=true)
  (F:ik X.prog X.w X.K X.mg X.base CX0 k f fd ps sp) (hr:du (k+1) X.A) (hb:Binds X.K fd ps []) (I:Inv X J6 σ H s) (r:bg vs us) (hz:us.length<=aj)
  (h:sp (.ref (s.heap.objs.size+1)::vs) (upd H (s.heap.objs.size+1) (.ext (cT (s.heap.objs.size+1) C none))) (fun v H2=>v=.non/\QH H2) E0) {E:Zc} :
  wpAny (model X.prog X.w) X.A (call (.ref C) us) (fun u s'=>u=.ref (s.heap.objs.size+1)/\∃H2,Inv X J6 σ H2 s'/\QH H2) E s:=by
 obtain⟨nm,q,N,bs,bm,sn,sub,ab,col,dd,k0,k1,k2,k3,k5,e,hv⟩:=c.obj;have KI:=I.kIn;obtain⟨oI,hoI,hcI⟩:∃oI,X.K.lookup f=some oI/\oI.cls=.type "function":=by
  obtain⟨o,ho,e⟩:=rY.mp (beq_iff_eq.mp hf);exact⟨o,ho,e⟩
 obtain⟨hh,g,d,t,os⟩:=s;refine HA (q:=q) (h:=hh) hv (KI _ _ e) (PySem.W.looks_findIn KI hi) (KI _ _ hoI) hcI hz fun h' kp z gx=>?_;dsimp only at h I;have I2:=I.laid (a:=hh.objs.size+1) (o:=.ext (cT (hh.objs.size+1) C none)) (h':=h') (t':=t) kp (kD _) (pM gx rfl);have r2:bg (V.ref (hh.objs.size+1)::vs) (Value.ref (hh.objs.size+1)::us):=.cons rfl r;have hl:((Value.ref (hh.objs.size+1)::us)++[]).length=ps.length:=by rw[fD,<-r2.length];exact F.len _ _ _ _ h
 have bd:=hb _ (Value.ref (hh.objs.size+1)::us) I2.kIn hl;rw[fD]at bd;refine rB (uA (F.run _ X.stack _ _ ⟨Value.ref (hh.objs.size+1)::us,[]⟩ (Value.ref (hh.objs.size+1)::us) _ _ E0 (hr.make C us []) (I2.env0.make C us []) bd r2 h) fun res s' hq=>?_);cases res with
 |error e=>exact hq.elim
 |ok fl =>
  cases fl with
  |ret u =>
   obtain⟨v,H',I3,rv,ev,q3⟩:=I2.after hq;subst ev;exact⟨rv,rfl,H',I3,q3⟩
  |next=>exact da hq
  |brk=>exact da hq
  |cont=>exact da hq
def zA(C:Addr)(sp:Sp)(E:XK)(t:TA):TS:=fun _ σ H=>t σ H fun vs H1=>vs.length<=aj/\∀a,H1 a=none ->
 sp (.ref a::vs) (upd H1 a (.ext (cT a C none))) (fun v H2=>v=.non/\∃od,H2 a=some (.ext (cT a C od))/\E (.ref C) (some a) (upd H2 a (.ext (hV a C od)))) E0
theorem Ea{E:XK}{x:Str}{np J7 pos:Pos}{e:Expr}{es:List Expr}{t:TA}(l:Lv X E)(c:j3 X.K C)(hi:bW X.K (.ref C) "__init__"=some (some (.ref f)))(hf:m8 X.K (.ref f)=true)(kp:eh X.K (.ref C)=true)
  (F:ik X.prog X.w X.K X.mg X.base CX0 k f fd ps sp) (hr:du (k+1) X.A) (hb:Binds X.K fd ps []) (hc:X.calm=true) (hg:Gl X x) (hm:X.mg x=some (.ref C)) (ha:PA X (e::es) t) (hdb:(x==("__debug__":Str))=false:=by decide)
  (he:aB (e::es) X.env=(false,eval e X.env)::aB es X.env:=by rfl) (hpl:(backTo J7 (aB es X.env)).any (·.1)=false:=by rfl) :
  PS X (.Raise (some (.Call (.Name x np) (e::es) [] J7)) none pos) (zA C sp E t):=by
 intro J6 s σ H D I h;obtain⟨nm,q,N,bs,bm,sn,sub,ab,col,dd,k0,k1,k2,k3,k5,eC,hv⟩:=c.obj;rw[arm_exec_Raise];simp only[evalOpt,Option.map];refine ao (p_ (A2 (C:=C) (nm:=nm) (q:=q) (N:=N) (bs:=bs) (bm:=bm) (hdct:=true) (sn:=sn) (sub:=sub) (ab:=ab) (col:=col) (dd:=dd) (k0:=k0) (k1:=k1) (k2:=k2) (k3:=k3) (k5:=k5) (newId:="ValueError.__new__") hv (I.ok.hd hc) ?_));refine ao (bU (Q:=fun v s1=>∃a od vs,v=.ref a/\s1.heap.get? C=some (gX nm q C N bs bm true sn sub ab col dd k0 k1 k2 k3 k5 "ValueError.__new__")/\s1.heap.get? a=some { cls:=.ref C,dict:=od,data:=.fields vs }/\vs[1]?=some .none/\X.xe (.ref a) s1) ?_ (fun v s3 h3=>ao (p_ (a_ h3))) fun _ _ y=>y);refine p8 (ib I hg hm ?_ hdb);refine se (h₀:=X.base) I.ok.mod.kin kp (cM (ha J7 J6 s σ H _ I h) fun us s1 ⟨vs,H1,I1,r,hz,q1⟩=>⟨I1.kIn,?_⟩) he hpl;refine cM (uQ c hi hf F hr hb I1 r (by rw[<-r.length];exact hz) (q1 (s1.heap.objs.size+1) (I1.hok.fresh (kD _)))) fun u s2 ⟨eu,H2,I2,od,e2,q2⟩=>?_;obtain⟨ws,gw,gw1⟩:=I2.excN e2;refine⟨s1.heap.objs.size+1,od,ws,eu,I2.kIn _ _ eC,gw,gw1,?_⟩;have w1:1<ws.size:=(eP.mp gw1).1;have I3:=I2.write (x:=s1.heap.objs.size+1) (e:=s1.heap.objs.size+1) (o:=.ext (hV (s1.heap.objs.size+1) C od)) (h':=s2.heap) (t':=s2.toks) (by rw[e2];exact eg) (.inl rfl) (fun b u _ g=>g) ⟨_,gw⟩ (pL gw w1);exact l J6 σ _ s2 s1.heap.objs.size _ C od I3 I1.young ⟨aa,kD _,ws,none,gw,w1,.inl ⟨gw1,rfl⟩,fun t z=>by cases z⟩ q2
end
abbrev Cx.hnd(X:Cx)(v:Value):Cx:={ X with A:=X.A.mark (some v),calm:=false,xe:=fun _ _=>False }
section
variable{X:Cx}{J6:Zd}{σ:St}{H:Hp}{s:Shared}{n:Nat}{a C:Addr}{od:Option Addr}{v:Value}
theorem Inv.hnd(I:Inv X J6 σ H s)(v:Value):Inv (X.hnd v) J6 σ H s :=
 ⟨⟨I.ok.mod,I.ok.kind,I.ok.glob,I.ok.blt,I.ok.above,I.ok.inj,I.ok.has,I.ok.cab,(fun z=>nomatch z),I.ok.frames,I.ok.stk,I.ok.exf,I.ok.bs,I.ok.bsz,I.ok.noex,I.ok.exfs,I.ok.funs,I.ok.frf⟩,I.os,I.bare,I.base,I.loc,I.cell,I.free,I.freeC,I.pin,I.hok,I.len⟩
theorem Inv.unhnd(I':Inv (X.hnd v) J6 σ H s)(ok:X.Ok):Inv X J6 σ H s:=⟨ok,I'.os,I'.bare,I'.base,I'.loc,I'.cell,I'.free,I'.freeC,I'.pin,I'.hok,I'.len⟩
theorem FD{M:Model}{A:Around}{Q:Unit->Shared->Prop}{E:Zc}(I:Inv X J6 σ H s)(y:kf X J6 n)(fl:h_ n s.heap H a C od)(h:∀s',Inv X J6 σ H s'->h_ n s'.heap H a C od->Q () s'):
  wpAny M A (jI (.ref a) none) Q E s:=by
 obtain⟨vs,T,e,z,tr,fT⟩:=fl.tr;unfold jI;rcases tr with⟨h1,rfl⟩|⟨t,oT,ts,rfl,h1,ny,hta,hT,hdT,h3⟩
 ·refine ao (cq e rfl h1 ?_);rw[if_neg (by decide)];exact a_ (h s I fl)
 ·refine ao (cq e rfl h1 ?_);rw[if_pos (show(Value.ref t != Value.none)=true from by simp)];refine jg hT hdT (eP.mp h3).1 ?_;have kp:∀b o,b≠t->s.heap.get? b=some o->(s.heap.update t (cY (·.setIfInBounds 3 ((none:Option Addr).elim Value.none fun f=>rawInt f)))).get? b=some o:=fun b o nb g=>by
   rw[fj _ _ (cW nb)];exact g
  have hz3:=(eP.mp h3).1;refine h _ (I.turned (t':=s.toks) (it:=t) kp (fT t rfl) (fun q=>absurd ny (fF (q▸y.loc))) (.inr (bj y.s0 ny)) (fun x c g q=>absurd ny (fF (q▸y.cell x c g))) (fun p hp q=>absurd ny (fF (q▸y.pin p hp))))
   ⟨fl.trk,fl.new,vs,some t,kp a _ (cW hta) e,z,.inr ⟨t,_,_,rfl,h1,ny,hta,g8 _ hT (kB (gZ hdT _)),gZ hdT _,by simp[hz3]⟩,fT⟩
theorem rk{M:Model}{A:Around}{E:Zc}{i:Nat}{x:Str}{pos:Pos}{Q:Unit->Shared->Prop}(I:Inv X J6 σ H s)(hN:X.N.Nodup)(hi:X.N[i]?=some x)(hx:X.env.scope.names.lookup x=some .local)
  (h:∀s',Inv X J6 (σ.set i none) H s'->Q () s'):wpAny M A (do bindName X.env x .none;unbindBehindTheSuite X.env x pos) Q E s:=by
 obtain⟨m,hn,hl⟩:=id I.loc;have hcls:(X.env.scope.kind==.class || (X.env.scope.kind==.module && X.env.locals != X.env.globals))=false:=by rw[I.ok.kind];rfl
 have hiσ:i<σ.length:=by rw[I.len];exact(db.mp hi).1
 have cne:=I.cne;refine wpAny_nameGoes_keeps hx hn hcls fun h' v hn' hs=>?_;obtain⟨oL,_,_,hoL,_⟩:=id hn;have tracked:ki X.prog X.w X.K H h':=fun b ob e=>by
  refine(I.hok b ob e).stay (fun c w' hc q=>(hs.2 c ?_).trans q) (fun _ q=>q) fun _ _ q=>q;rintro rfl;rcases hc with rfl|hc
  ·rw[I.free]at e;cases e
  ·rw[I.free]at hc;cases hc
 refine h _ ⟨I.ok,I.os,I.bare,⟨fun b o e n hb hx=>?_,fun b o e n hb hx=>?_,I.base.free,fun b o e hx=>?_,I.base.tups,I.base.frzs,I.base.tbls⟩,⟨_,hn',fun j y v' e1 e2 e3=>?_⟩,fun y c e=>?_,I.free,I.freeC,fun p hp=>?_,tracked,by simpa using I.len⟩
 ·exact(hs.2 b (cx (fE (aM e) I.ok.above))).trans (I.base.keep b o e n hb hx)
 ·obtain⟨sl,e1⟩:=I.base.slot b o e n hb hx;exact⟨sl,(hs.2 b (cx (fE (aM e) I.ok.above))).trans e1⟩
 ·obtain⟨o',e1⟩:=I.base.there b o e hx;exact⟨o',(hs.2 b (cx (fE (aM e) I.ok.above))).trans e1⟩
 ·by_cases hj:j=i
  ·subst hj;rw[List.getElem?_set_self hiσ]at e2;cases e2
  ·rw[AX (cW hj)]at e2;obtain⟨u',r',q⟩:=hl j y v' e1 e2 e3;refine⟨u',r',?_⟩;rcases q with⟨k,e⟩|⟨k,c,e,z⟩
   ·refine .inl ⟨k,?_⟩;have:y≠x:=fun e=>hj (sU hN e1 (e▸hi));simp[this,e]
   ·exact .inr ⟨k,c,e,z.sameBut hs (cne y c e)⟩
 ·obtain⟨w',z⟩:=I.cell y c e;exact⟨w',z.sameBut hs (cne y c e)⟩
 ·obtain⟨e,n,ne,nf,d⟩:=I.pin p hp;exact⟨(hs.2 p.1 ne).trans e,n,ne,nf,d⟩
def XE(X:Cx)(J6:Zd)(σ:St)(W:XK)(e:Value)(s':Shared):Prop:=∃n a C od H',e=.ref a/\kf X J6 n/\Inv X J6 σ H' s'/\h_ n s'.heap H' a C od/\W (.ref C) (some a) H'
def XS(X:Cx)(J6:Zd)(W:St->XK)(e:Value)(s':Shared):Prop:=∃n a C od σ' H',e=.ref a/\kf X J6 n/\Inv X J6 σ' H' s'/\h_ n s'.heap H' a C od/\W σ' (.ref C) (some a) H'
def IM(X:Cx)(e:Expr)(t:XK->TE):Prop:=∀(J6:Zd) (s:Shared) (σ:St) (H:Hp) (Q:VK) (W:XK),Inv X J6 σ H s->t W σ H Q->wpAny (model X.prog X.w) X.A (eval e X.env) (EP X J6 σ Q) (XE X J6 σ W) s
def PH(X:Cx)(hs:List vw)(t:il->St->XK):Prop:=∀(J6:Zd) (n:Nat) (s:Shared) (σ:St) (H:Hp) (D:il) (a C:Addr) (od:Option Addr),Inv X J6 σ H s->kf X J6 n->h_ n s.heap H a C od->t D σ (.ref C) (some a) H ->
 wpAny (model X.prog X.w) X.A (handleBy (.ref a) X.env hs) (SP X J6 D) X.xe s
def Je(tb:(St->XK)->TS)(th:il->St->XK):TS:=fun D σ H=>tb (th D) D σ H
def GW(te:XK->TE)(i:Nat):(St->XK)->TS:=fun W D σ H=>te (W σ) σ H fun v H1=>D.nx (σ.set i (some v)) H1
def Du(te:XK->TE):(St->XK)->TS:=fun W D σ H=>te (W σ) σ H fun _ H1=>D.nx σ H1
def HF(tc:TT)(ta tb:(St->XK)->TS):(St->XK)->TS:=fun W=>cG tc (ta W) (tb W)
def zB(t:TS):(St->XK)->TS:=fun _=>t
def IL(X:Cx)(b:Stmt)(t:(St->XK)->TS):Prop:=∀(J6:Zd) (s:Shared) (σ:St) (H:Hp) (D:il) (W:St->XK),Inv X J6 σ H s->t W D σ H->wpAny (model X.prog X.w) X.A (exec b X.env) (SP X J6 D) (XS X J6 W) s
theorem XE.xs{e:Value}{W:St->XK}(h:XE X J6 σ (W σ) e s):XS X J6 W e s:=let⟨n,a,C,od,H',ea,y,I,fl,q⟩:=h;⟨n,a,C,od,σ,H',ea,y,I,fl,q⟩
theorem HW{e:Expr}{te:XK->TE}{x:Str}{i:Nat}{np pos:Pos}(hN:X.N.Nodup)(hi:X.N[i]?=some x)(hx:Loc X.env.scope x)(he:IM X e te)
  (hs:l_ e (some (.Name x np)) pos.line X.env=pure false:=by rfl) (hf:X.fn x=true∨X.env.scope.names.lookup x=some .local:=by first|exact .inl rfl|exact .inr rfl|assumption) :
  IL X (.Assign [.Name x np] e pos) (GW te i):=by
 intro J6 s σ H D W I h;refine wpAny_Assign_Name (bU (he J6 s σ H _ (W σ) I h) (fun v s1 ⟨y,H1,I1,r1,q1⟩=>?_) fun _ _ z=>z.xs) hs;exact nC I1 hN hi hx r1 (fun s2 I2=>⟨_,H1,I2,q1⟩) hf
theorem Ga{e:Expr}{te:XK->TE}{pos:Pos}(he:IM X e te)(hs:l_ e none pos.line X.env=pure false:=by rfl):IL X (.Expr e pos) (Du te):=by
 intro J6 s σ H D W I h;exact wpAny_Expr_any (bU (he J6 s σ H _ (W σ) I h) (fun v s1 ⟨x,H1,I1,r1,q1⟩=>⟨σ,H1,I1,q1⟩) fun _ _ z=>z.xs) I.quiet hs
section
variable{f:Addr}{k:Nat}{fd:hZ}{ps:Zb}{sp:Sp}{x:Str}{p pos:Pos}{e:Expr}{es:List Expr}{t:TA}
theorem XE.of{W:XK}{ev:Value}{H1:Hp}{s1 s':Shared}(I1:Inv X J6 σ H1 s1)(h:BW X.prog X.w X.K X.stack H1 s1 W ev s'):XE X J6 σ W ev s':=by
 obtain⟨a,C,od,H',ea,os,bare,un,hok,fl,q⟩:=h;exact⟨_,a,C,od,H',ea,I1.young,I1.call' (ch:=[]) os un hok bare (fun b z=>absurd z (by simp)),fl,q⟩
theorem Ef(F:ik X.prog X.w X.K X.mg X.base (BW X.prog X.w X.K) k f fd ps sp)(hr:du k X.A)(hg:Gl X x)(hm:X.mg x=some (.ref f))(hk:eh X.K (.ref f)=true)(hb:Binds X.K fd ps [])
  (ha:PA X.nox (e::es) t) (hdb:(x==("__debug__":Str))=false:=by decide) (he:aB (e::es) X.env=(false,eval e X.env)::aB es X.env:=by rfl) (hpl:(backTo pos (aB es X.env)).any (·.1)=false:=by rfl) :
  IM X (.Call (.Name x p) (e::es) [] pos) (fun W=>qi sp [] W t):=by
 intro J6 s σ H Q W I h;refine p8 (ib I hg hm ?_ hdb);refine se (h₀:=X.base) I.ok.mod.kin hk (bU (ha pos J6 s σ H _ (I.wish _) h) (fun us s1 ⟨vs,H1,I1',r,q⟩=>⟨I1'.kIn,?_⟩) fun _ _ z=>da z) he hpl;have I1:=I1'.unwish;dsimp only at q;rw[fD]at q;have hl:(us++[]).length=ps.length:=by rw[fD,<-r.length];exact F.len _ _ _ _ q
 have bd:=hb s1 us I1.kIn hl;rw[fD]at bd;refine rB (uA (F.run X.A X.stack s1 H1 ⟨us,[]⟩ us vs Q W hr I1.env0 bd r q) fun res s' hq=>?_);cases res with
 |error ev=>exact XE.of I1 hq
 |ok fl =>
  cases fl with
  |ret u=>exact I1.after hq
  |next=>exact da hq
  |brk=>exact da hq
  |cont=>exact da hq
theorem Ed{C:Addr}(M:Mk X.K C f)(F:ik X.prog X.w X.K X.mg X.base (BW X.prog X.w X.K) k f fd ps sp)(hr:du (k+1) X.A)(hg:Gl X x)(hm:X.mg x=some (.ref C))(hb:Binds X.K fd ps [])
  (ha:PA X.nox (e::es) t) (hdb:(x==("__debug__":Str))=false:=by decide) (he:aB (e::es) X.env=(false,eval e X.env)::aB es X.env:=by rfl) (hpl:(backTo pos (aB es X.env)).any (·.1)=false:=by rfl) :
  IM X (.Call (.Name x p) (e::es) [] pos) (fun W=>Dr C sp [] W t):=by
 intro J6 s σ H Q W I h;refine p8 (ib I hg hm ?_ hdb);refine se (h₀:=X.base) I.ok.mod.kin M.kp (bU (ha pos J6 s σ H _ (I.wish _) h) (fun us s1 ⟨vs,H1,I1',r,q⟩=>⟨I1'.kIn,?_⟩) fun _ _ z=>da z) he hpl;have I1:=I1'.unwish;have hq:=q (s1.heap.objs.size+1) s1.heap.objs.size (I1.hok.fresh (kD _)) (I1.hok.fresh (aN _)) (cx (Nat.lt_succ_self _));rw[fD]at hq;have I2:=Inv.made (C:=C) I1;have r2:bg (V.ref (s1.heap.objs.size+1)::vs) (Value.ref (s1.heap.objs.size+1)::us):=.cons rfl r;have hl:((Value.ref (s1.heap.objs.size+1)::us)++[]).length=ps.length:=by rw[fD,<-r2.length];exact F.len _ _ _ _ hq
 have bd:=hb _ (Value.ref (s1.heap.objs.size+1)::us) I2.kIn hl;rw[fD]at bd;refine rB (EK (f:=f) I1.kIn M.makes M.init (beq_iff_eq.mp M.fn) (uA (F.run _ X.stack _ _ ⟨Value.ref (s1.heap.objs.size+1)::us,[]⟩ (Value.ref (s1.heap.objs.size+1)::us) _ _ W (hr.make C us [])
  (I2.env0.make C us []) bd r2 hq) fun res s' hq'=>?_))
 cases res with
 |error ev=>exact XE.of I2 hq'
 |ok fl =>
  cases fl with
  |ret u =>
   obtain⟨v,H',I3,rv,ev,q3⟩:=I2.after hq';subst ev;exact⟨rv,⟨V.ref (s1.heap.objs.size+1),H',I3,rfl,q3⟩⟩
  |next=>exact da hq'
  |brk=>exact da hq'
  |cont=>exact da hq'
end
section
variable{cn nme:Str}{Dc:Addr}{np hpos:Pos}{b0:Stmt}{suite:List Stmt}{rest:List vw}{th:TS}{tr:il->St->XK}{i:Nat}
def HG(K:Za)(Dc:Addr)(i:Nat)(th:TS)(tr:il->St->XK):il->St->XK:=fun D σ cls oa H=>∃C a b,cls=.ref C/\oa=some a/\vv K (.ref C) (.ref Dc)=some b /\
 if b=true then th { nx:=fun σ' H'=>D.nx (σ'.set i none) H',rt:=D.rt,bk:=fun σ' H'=>D.bk (σ'.set i none) H',ct:=fun σ' H'=>D.ct (σ'.set i none) H' } (σ.set i (some (.ref a))) H else tr D σ cls oa H
def Jf:il->St->XK:=fun _ _ _ _ _=>False
theorem Ia:PH X [] Jf:=fun _ _ _ _ _ _ _ _ _ _ _ _ h=>h.elim
theorem G7(hN:X.N.Nodup)(hi:X.N[i]?=some nme)(hx:X.env.scope.names.lookup nme=some .local)(hg:Gl X cn)(hm:X.mg cn=some (.ref Dc))(hsu:∀a:Addr,xy (X.hnd (.ref a)) (b0::suite) th)(hre:PH X rest tr)
  (hdb:(cn==("__debug__":Str))=false:=by decide):PH X (.ExceptHandler (some (.Name cn np)) (some nme) (b0::suite) hpos::rest) (HG X.K Dc i th tr):=by
 intro J6 n s σ H D a C od I y fl ⟨C',a',b,e1,e2,ex,h⟩;cases e1;cases e2;obtain⟨vs,g,_⟩:=I.exc fl.trk;refine wpAny_handleBy_cons (codeAny_handlers_test ?_) (by intro q;cases q);refine ib (X:=X.hnd (.ref a)) (I.hnd (.ref a)) hg hm ?_ hdb;refine(PySem.W.exm_one (M:=model X.prog X.w) I.kIn (Hw g) ex).here ?_;cases b with
 |false=>exact hre J6 n s σ H D a C od I y fl h
 |true =>
  refine codeAny_handlers_suite_as (FD I y fl fun s1 I1 fl1=>?_);refine nC (X:=X) I1 hN hi (.inl hx) (v:=.ref a) (u:=.ref a) rfl (fun s2 I2=>?_) (.inr hx);refine bU (hsu a J6 s2 _ H _ (I2.hnd (.ref a)) h) (fun f s3 q3=>?_) fun _ _ z=>da z;cases f with
  |next=>obtain⟨σ',H',I3,q⟩:=q3;exact rk (I3.unhnd I.ok) hN hi hx fun s4 I4=>⟨_,H',I4,q⟩
  |brk=>obtain⟨σ',H',I3,q⟩:=q3;exact rk (I3.unhnd I.ok) hN hi hx fun s4 I4=>⟨_,H',I4,q⟩
  |cont=>obtain⟨σ',H',I3,q⟩:=q3;exact rk (I3.unhnd I.ok) hN hi hx fun s4 I4=>⟨_,H',I4,q⟩
  |ret u=>obtain⟨v,σ',H',I3,rv,q⟩:=q3;exact rk (I3.unhnd I.ok) hN hi hx fun s4 I4=>⟨v,_,H',I4,rv,q⟩
end
end
def Ar(sp:Sp)(E:XK):Sp:=fun vs H Q _=>sp vs H Q E
structure y9(P:bB)(w:World)(K:Za)(mg:Str->Option Value)(base:Heap)(x:Str)(ps:Zb)(k:Nat)(sp:Sp):Prop where
 ex:∃f fd,ik P w K mg base (BW P w K) k f fd ps sp/\mg x=some (.ref f)/\eh K (.ref f)=true/\Binds K fd ps []
structure IN(P:bB)(w:World)(K:Za)(mg:Str->Option Value)(base:Heap)(x:Str)(C:Addr)(ps:Zb)(k:Nat)(sp:Sp):Prop where
 ex:∃f fd,ik P w K mg base (BW P w K) k f fd ps sp/\mg x=some (.ref C)/\Mk K C f/\Binds K fd ps []
structure Fq(P:bB)(w:World)(K:Za)(mg:Str->Option Value)(base:Heap)(x:Str)(C:Addr)(ps:Zb)(k:Nat)(sp:Sp):Prop where
 ex:∃f fd,ik P w K mg base CX0 k f fd ps sp/\mg x=some (.ref C)/\j3 K C/\bW K (.ref C) "__init__"=some (some (.ref f))/\m8 K (.ref f)=true/\eh K (.ref C)=true/\Binds K fd ps []
section
variable{X:Cx}{k:Nat}{ps:Zb}{sp:Sp}{E:XK}{x:Str}{C:Addr}{p pos np J7:Pos}{e:Expr}{es:List Expr}{t:TA}{st:Stmt}{ts:TS}
theorem PS.nox(h:PS X.nox st ts):PS X st ts:=fun J6 s σ H D I hw=>bU (h J6 s σ H D (I.wish _) hw) (fun _ _ q=>q.unwish) fun _ _ z=>da z
theorem pk(D:y9 X.prog X.w X.K X.mg X.base x ps k sp)(l:Lv X E)(hr:du k X.A)(hg:Gl X x)(ha:PA X (e::es) t)(hdb:(x==("__debug__":Str))=false:=by decide)
  (he:aB (e::es) X.env=(false,eval e X.env)::aB es X.env:=by rfl) (hpl:(backTo pos (aB es X.env)).any (·.1)=false:=by rfl) :
  PE X (.Call (.Name x p) (e::es) [] pos) (aR (Ar sp E) t):=by
 obtain⟨f,fd,F,hm,hk,hb⟩:=D.ex;have h:PE X (.Call (.Name x p) (e::es) [] pos) (qi sp [] E t):=wx F hr hg hm hk hb .nil l.passes ha hdb he hpl;exact h
theorem Ee(D:y9 X.prog X.w X.K X.mg X.base x ps k sp)(hr:du k X.A)(hg:Gl X x)(ha:PA X.nox (e::es) t)(hdb:(x==("__debug__":Str))=false:=by decide)
  (he:aB (e::es) X.env=(false,eval e X.env)::aB es X.env:=by rfl) (hpl:(backTo pos (aB es X.env)).any (·.1)=false:=by rfl) :
  IM X (.Call (.Name x p) (e::es) [] pos) (fun W=>qi sp [] W t):=by
 obtain⟨f,fd,F,hm,hk,hb⟩:=D.ex;exact Ef F hr hg hm hk hb ha hdb he hpl
theorem Ge(D:IN X.prog X.w X.K X.mg X.base x C ps k sp)(hr:du (k+1) X.A)(hg:Gl X x)(ha:PA X.nox (e::es) t)(hdb:(x==("__debug__":Str))=false:=by decide)
  (he:aB (e::es) X.env=(false,eval e X.env)::aB es X.env:=by rfl) (hpl:(backTo pos (aB es X.env)).any (·.1)=false:=by rfl) :
  IM X (.Call (.Name x p) (e::es) [] pos) (fun W=>Dr C sp [] W t):=by
 obtain⟨f,fd,F,hm,M,hb⟩:=D.ex;exact Ed M F hr hg hm hb ha hdb he hpl
theorem Cv(D:Fq X.prog X.w X.K X.mg X.base x C ps k sp)(l:Lv X E)(hr:du (k+1) X.A)(hc:X.calm=true)(hg:Gl X x)(ha:PA X (e::es) t)(hdb:(x==("__debug__":Str))=false:=by decide)
  (he:aB (e::es) X.env=(false,eval e X.env)::aB es X.env:=by rfl) (hpl:(backTo J7 (aB es X.env)).any (·.1)=false:=by rfl) :
  PS X (.Raise (some (.Call (.Name x np) (e::es) [] J7)) none pos) (zA C sp E t):=by
 obtain⟨f,fd,F,hm,c,hi,hf,kp,hb⟩:=D.ex;exact Ea l c hi hf kp F hr hb hc hg hm ha hdb he hpl
end
section
variable{P:bB}{w:World}{K:Za}{mg:Str->Option Value}{base:Heap}
theorem Hu.okX{x qual:Str}{st:Stmt}{f:Addr}{fd:hZ}{N ps:Zb}{k:Nat}{sp:Sp}(F:Hu K x qual st f fd)(S:fX N ps (bq st))(len:∀vs H Q E,sp vs H Q E->vs.length=ps.length)
  (hbody:∀(cdv:Value) (A:Around) (outer:List Env) (s:Shared) (H:Hp) (vs:List V) (Q:VK) (E:XK),du k (A.deeper (envOfC qual (bq st) s.heap.objs.size f cdv))->sp vs H Q E ->
   ∃t,xy (tG (BW P w K) P w K mg base N qual (bq st) f cdv A outer s H E) (fc st) t/\t (bT Q) (start N vs) H):ik P w K mg base (BW P w K) (k+1) f fd ps sp:=by
 obtain⟨oc,od,kV,doc,pm,an,cdv,ct,osl,rfl,lk,hcd⟩:=F.ex;refine Hc lk hcd S len fun A outer s H vs Q E hr hsp=>?_;exact hbody cdv A outer s H vs Q E hr hsp
end
end L2
namespace L2
open PySem PySem.W
theorem Iu{K:Frag}{C D:Addr}{b:Bool}(h1:subIn K (.ref D) (.type "BaseException")=some true)(h2:isClsIn K D=true)(h3:typeIn K (.ref D)=some (.type "type"))(h4:subIn K (.ref C) (.ref D)=some b):exmOne K (.ref C) (.ref D)=some b:=by
 have h2':(clsIn K D).isSome=true:=h2;unfold exmOne;rw[h1,if_pos (by decide)];show(if((clsIn K D).isSome && typeIn K (.ref D)==some (.type "type"))=true then subIn K (.ref C) (.ref D)else none)=some b
 rw[if_pos (by rw[h2',h3];decide)];exact h4
section
variable{X:Cx}{k:Nat}{ps:Zb}{sp:Sp}{x:Str}{C:Addr}{p pos:Pos}{e:Expr}{es:List Expr}{t:TA}
theorem Jo:mT (BW X.prog X.w X.K) X E0:=fun _ _ _ _ _ _ _ ⟨_,_,_,_,_,_,_,_,_,_,q⟩=>q.elim
theorem Ig(D:y9 X.prog X.w X.K X.mg X.base x ps k sp)(hr:du k X.A)(hg:Gl X x)(ha:PA X (e::es) t)(hdb:(x==("__debug__":Str))=false:=by decide)
  (he:aB (e::es) X.env=(false,eval e X.env)::aB es X.env:=by rfl) (hpl:(backTo pos (aB es X.env)).any (·.1)=false:=by rfl) :
  PE X (.Call (.Name x p) (e::es) [] pos) (aR sp t):=by
 obtain⟨f,fd,F,hm,hk,hb⟩:=D.ex;exact wx F hr hg hm hk hb .nil Jo ha hdb he hpl
end
section
variable{X:Cx}{J6:Zd}{σ:St}{H:Hp}{s:Shared}{k:Nat}{f C:Addr}{fd:hZ}{ps:Zb}{sp:Sp}
def lG(C:Addr)(sp:Sp)(t:TA):(St->XK)->TS:=fun W _ σ H=>t σ H fun vs H1=>vs.length<=aj/\∀a,H1 a=none ->
 sp (.ref a::vs) (upd H1 a (.ext (cT a C none))) (fun v H2=>v=.non/\∃od,H2 a=some (.ext (cT a C od))/\W σ (.ref C) (some a) (upd H2 a (.ext (hV a C od)))) E0
theorem D0{x:Str}{np J7 pos:Pos}{e:Expr}{es:List Expr}{t:TA}(c:j3 X.K C)(hi:bW X.K (.ref C) "__init__"=some (some (.ref f)))(hf:m8 X.K (.ref f)=true)(kp:eh X.K (.ref C)=true)
  (F:ik X.prog X.w X.K X.mg X.base CX0 k f fd ps sp) (hr:du (k+1) X.A) (hb:Binds X.K fd ps []) (hc:X.calm=true) (hg:Gl X x) (hm:X.mg x=some (.ref C)) (ha:PA X.nox (e::es) t) (hdb:(x==("__debug__":Str))=false:=by decide)
  (he:aB (e::es) X.env=(false,eval e X.env)::aB es X.env:=by rfl) (hpl:(backTo J7 (aB es X.env)).any (·.1)=false:=by rfl) :
  IL X (.Raise (some (.Call (.Name x np) (e::es) [] J7)) none pos) (lG C sp t):=by
 intro J6 s σ H D W I h;obtain⟨nm,q,N,bs,bm,sn,sub,ab,col,dd,k0,k1,k2,k3,k5,eC,hv⟩:=c.obj;rw[arm_exec_Raise];simp only[evalOpt,Option.map];refine ao (p_ (A2 (C:=C) (nm:=nm) (q:=q) (N:=N) (bs:=bs) (bm:=bm) (hdct:=true) (sn:=sn) (sub:=sub) (ab:=ab) (col:=col) (dd:=dd) (k0:=k0) (k1:=k1) (k2:=k2) (k3:=k3) (k5:=k5) (newId:="ValueError.__new__") hv (I.ok.hd hc) ?_));refine ao (bU (Q:=fun v s1=>∃a od vs,v=.ref a/\s1.heap.get? C=some (gX nm q C N bs bm true sn sub ab col dd k0 k1 k2 k3 k5 "ValueError.__new__")/\s1.heap.get? a=some { cls:=.ref C,dict:=od,data:=.fields vs }/\vs[1]?=some .none/\XS X J6 W (.ref a) s1) ?_ (fun v s3 h3=>ao (p_ (a_ h3))) fun _ _ y=>y);refine p8 (ib I hg hm ?_ hdb);refine se (h₀:=X.base) I.ok.mod.kin kp (bU (ha J7 J6 s σ H _ (I.wish _) h) (fun us s1 ⟨vs,H1,I1',r,hz,q1⟩=>⟨I1'.kIn,?_⟩) fun _ _ z=>da z) he hpl;have I1:=I1'.unwish;refine bU (uQ (E:=XS X J6 W) c hi hf F hr hb I1 r (by rw[<-r.length];exact hz) (q1 (s1.heap.objs.size+1) (I1.hok.fresh (kD _)))) (fun u s2 ⟨eu,H2,I2,od,e2,q2⟩=>?_) fun _ _ z=>z;obtain⟨ws,gw,gw1⟩:=I2.excN e2;refine⟨s1.heap.objs.size+1,od,ws,eu,I2.kIn _ _ eC,gw,gw1,?_⟩;have w1:1<ws.size:=(eP.mp gw1).1;have I3:=I2.write (x:=s1.heap.objs.size+1) (e:=s1.heap.objs.size+1) (o:=.ext (hV (s1.heap.objs.size+1) C od)) (h':=s2.heap) (t':=s2.toks) (by rw[e2];exact eg) (.inl rfl) (fun b u _ g=>g) ⟨_,gw⟩ (pL gw w1);exact⟨s1.heap.objs.size,_,C,od,σ,_,rfl,I1.young,I3,⟨aa,kD _,ws,none,gw,w1,.inl ⟨gw1,rfl⟩,fun t z=>by cases z⟩,q2⟩
theorem uT{x:Str}{np J7 pos:Pos}{e:Expr}{es:List Expr}{t:TA}(D:Fq X.prog X.w X.K X.mg X.base x C ps k sp)(hr:du (k+1) X.A)(hc:X.calm=true)(hg:Gl X x)(ha:PA X.nox (e::es) t)(hdb:(x==("__debug__":Str))=false:=by decide)
  (he:aB (e::es) X.env=(false,eval e X.env)::aB es X.env:=by rfl) (hpl:(backTo J7 (aB es X.env)).any (·.1)=false:=by rfl) :
  IL X (.Raise (some (.Call (.Name x np) (e::es) [] J7)) none pos) (lG C sp t):=by
 obtain⟨f,fd,F,hm,c,hi,hf,kp,hb⟩:=D.ex;exact D0 c hi hf kp F hr hb hc hg hm ha hdb he hpl
end
section
variable{X:Cx}
def uM(t u:(St->XK)->TS):(St->XK)->TS:=fun W=>ax (t W) (u W)
end
end L2
end

section
set_option Elab.async false
set_option linter.all false
set_option maxRecDepth 100000
namespace L2
open PySem PySem.Spec PyProof.Rows PySem.W
structure XO(K:Frag)(C:Addr)(bm:Zf):Prop where
 ex:∃nm q N bs sn sub ab col dd k0 k1 k2 k3 k5,K.lookup C=some (gX nm q C N bs bm true sn sub ab col dd k0 k1 k2 k3 k5 "ValueError.__new__")
structure XG(K:Frag):Prop where
 hn:specialIn K (.builtin "object.__class__") "__get__"=some (some (.builtin "getset_descriptor.__get__"))
 htk:takesIn K (.builtin "object.__class__")=some true
structure XX(K:Frag)(mg:Str->Option Value)(x:Str)(C Ct:Addr):Prop where
 g:mg x=some (.ref C)
 o:XO K C (.ref Ct::jO)
 sa:findIn K (.ref C) "__setattr__"=some (some (.builtin "object.__setattr__"))
 ga:findIn K (.ref C) "__getattribute__"=some (some (.builtin "BaseException.__getattribute__"))
 gx:findIn K (.ref C) "__getattr__"=some none
 kp:keepIn K (.ref C)=true
 cl:findIn K (.ref C) "__class__"=some (some (.builtin "object.__class__"))
section
variable{K:Frag}{mg:Str->Option Value}{x y:Str}{C D Ct:Addr}{bm:Zf}
theorem XO.cls(h:XO K C bm):∃cd,clsIn K C=some cd/\cd.mro=.ref C::bm:=by
 obtain⟨nm,q,N,bs,sn,sub,ab,col,dd,k0,k1,k2,k3,k5,e⟩:=h.ex;exact⟨_,by unfold clsIn;rw[e],rfl⟩
theorem XO.ty(h:XO K C bm):typeIn K (.ref C)=some (.type "type"):=by
 obtain⟨nm,q,N,bs,sn,sub,ab,col,dd,k0,k1,k2,k3,k5,e⟩:=h.ex;show(K.lookup C).map (·.cls)=_;rw[e];rfl
theorem XO.sub(h:XO K C bm)(v:Value):subIn K (.ref C) v=some ((Value.ref C::bm).contains v):=by
 obtain⟨cd,e,m⟩:=h.cls;unfold subIn mroIn;dsimp only;rw[e];show(if cd.mro.isEmpty then none else some (cd.mro.contains v))=_
 rw[m];rfl
theorem XO.kitC(h:XO K C bm){bd:Zf}(g:XO K D bd):kitCls K (.ref C) (.ref D)=some ((Value.ref C::bm).contains (.ref D)):=by
 obtain⟨cd,e,m⟩:=g.cls;unfold kitCls;dsimp only;rw[e,g.ty,if_pos (show((some cd).isSome && some (Value.type "type")==some (Value.type "type"))=true by show(some (Value.type "type")==some (Value.type "type"))=true;decide)];exact h.sub _
theorem Bg(a b:Addr):((Value.ref a)==(Value.ref b))=decide (b=a):=by
 by_cases e:b=a
 ·subst e;simp
 ·rw[zzr0 e];exact beq_false_of_ne fun z=>e (by injection z with z;exact z.symm)
theorem HB(a:Addr):jO.contains (Value.ref a)=false:=rfl
theorem XX.cls(h:XX K mg x C Ct):j3 K C:=by
 obtain⟨nm,q,N,bs,sn,sub,ab,col,dd,k0,k1,k2,k3,k5,e⟩:=h.o.ex;exact⟨⟨nm,q,N,bs,_,sn,sub,ab,col,dd,k0,k1,k2,k3,k5,e,.own .base⟩,h.sa,h.ga,h.gx⟩
theorem XO.exm(h:XO K C bm){bd:Zf}(g:XO K D bd)(b:bd.contains (.type "BaseException")=true):exmOne K (.ref C) (.ref D)=some ((Value.ref C::bm).contains (.ref D)):=by
 unfold exmOne;rw[g.sub,jf,b,if_pos (by simp)];exact h.kitC g
theorem XX.exm(h:XX K mg x C Ct)(g:XX K mg y D Ct)(nt:D≠Ct):exmOne K (.ref C) (.ref D)=some (decide (D=C)):=by
 have h2:((Value.ref D)==(Value.ref Ct))=false:=by rw[Bg];exact zzr0 fun z=>nt z.symm
 rw[h.o.exm g.o rfl,jf,jf,HB,h2,Bg];by_cases e:C=D
 ·subst e;simp
 ·rw[zzr0 e,zzr0 fun z=>e z.symm];rfl
end
theorem wo{X:Cx}{b:Stmt}{t:TS}(h:PS X.nox b t):IL X b (zB t):=fun J6 s σ H D W I q=>bU (h J6 s σ H D (I.wish _) q) (fun _ _ z=>z.unwish) fun _ _ z=>da z
structure AI(n:Nat)(h:Heap)(H:Hp)(a C:Addr)(od:Option Addr)(L:Addr):Prop where
 trk:H a=some (.ext (hV a C od))
 new:n<=a
 tr:∃vs t oT ts,h.get? a=some { cls:=.ref C,dict:=od,data:=.fields vs }/\vs[1]?=some (.ref t)/\n<=t/\t≠a/\h.get? t=some oT/\oT.data=.fields ts/\ts[3]?=some (rawInt L)/\H t=none
section
variable{M:Model}{A:Around}{E:Zc}{s:Shared}{base:Heap}{env:Env}{outer:List Env}{L e:Addr}{oe:Obj}{vs:Array Value}{Q:Unit->Shared->Prop}
theorem A1{head:Value}{hadNext:Bool}(hfr:A.frames=some (env::outer))(hl:s.heap.FunFrames base (env::outer))(hf:env.frame=some L)
  (he:s.heap.get? e=some oe) (hd:oe.data=.fields vs) (hsz:1<vs.size)
  (h:∀h' vs' oT ts,Fw (mi (env::outer)) e none s.heap h'->h'.get? e=some { oe with data:=.fields vs' }->vs'[1]?=some (.ref s.heap.objs.size) ->
   h'.get? s.heap.objs.size=some oT->oT.data=.fields ts->ts[3]?=some (rawInt L)->Q () { s with heap:=h' }) :
  wpAny M A (do let fr <- frameOf env;let pl <- entryPlaceOf L hadNext;let nw <- vz head fr .none (rawInt L) .none pl;setField (.ref e) 1 nw) Q E s:=by
 have nfr:e∉mi (env::outer):=fun z=>by
  obtain⟨_,o,q1,q2⟩:=hl.mem z;rw[he]at q1;cases q1;exact q2 vs hd
 refine ao (wpAny_frameOf_fun hfr hl hf fun h1 so=>ao (wpAny_entryPlaceOf fun pl hpl=>?_));unfold vz newFields;refine ao (rV ?_ (hpl.sizeOk5 _ _ _ _ _));generalize hN:({ cls:=.type "traceback",dict:=none,data:=.fields ([head,.ref L,.none,rawInt L,.none]++(if pl.isEmpty then kI 6 Value.none else pl)).toArray }:Obj)=oN
 have dN:oN.data=.fields ([head,.ref L,.none,rawInt L,.none]++(if pl.isEmpty then kI 6 Value.none else pl)).toArray:=by rw[<-hN]
 have fN:oN.isFreed=false:=by rw[<-hN];rfl
 have e1:h1.get? e=some oe:=(so.2.1 e nfr).trans he;have e2:=bb (h:=h1) oN e1;have z1:h1.objs.size=s.heap.objs.size:=so.1;refine jg e2 hd hsz ?_;have ne:h1.objs.size≠e:=eK (aM e1);have d3:=gZ hd (·.setIfInBounds 1 (Value.ref h1.objs.size));have e3:=g8 (cY (·.setIfInBounds 1 (Value.ref h1.objs.size))) e2 (kB d3);have t3:((h1.push oN).update e (cY (·.setIfInBounds 1 (Value.ref h1.objs.size)))).get? h1.objs.size=some oN:=(fj (h1.push oN) _ (cW ne)).trans (dz h1 fN);have oth:∀b o,b≠e->h1.get? b=some o->((h1.push oN).update e (cY (·.setIfInBounds 1 (Value.ref h1.objs.size)))).get? b=some o:=fun b o nb q=>by
  rw[fj _ _ (cW nb)];exact bb _ q
 have e4:((h1.push oN).update e (cY (·.setIfInBounds 1 (Value.ref h1.objs.size)))).get? e=some { oe with data:=.fields (vs.setIfInBounds 1 (Value.ref h1.objs.size)) }:=by
  rw[e3,Obj.mapF hd]
 refine h _ _ _ _ ⟨fun b o q nb _ nf=>oth b o nb ((so.2.1 b nf).trans q),fun b o q nb _ nf=>?_,fun b o q=>?_⟩ e4 ?_ (by rw[<-z1];exact t3) dN ?_
 ·obtain⟨sl,q1⟩:=so.2.2 b o q;exact⟨sl,oth b _ nb q1⟩
 ·by_cases nb:b=e
  ·rw[nb];exact⟨_,e4⟩
  ·obtain⟨sl,q1⟩:=so.2.2 b o q;exact⟨_,oth b _ nb q1⟩
 ·rw[<-z1];simp[hsz]
 ·simp
theorem FB{n:Nat}{T:Option Addr}(hfr:A.frames=some (env::outer))(hl:s.heap.FunFrames base (env::outer))(hf:env.frame=some L)
  (he:s.heap.get? e=some oe) (hd:oe.data=.fields vs) (ht:Trc n s.heap e vs T)
  (h:∀h' vs' oT ts,Fw (mi (env::outer)) e T s.heap h'->h'.get? e=some { oe with data:=.fields vs' }->vs'[1]?=some (.ref s.heap.objs.size) ->
   h'.get? s.heap.objs.size=some oT->oT.data=.fields ts->ts[3]?=some (rawInt L)->Q () { s with heap:=h' }):wpAny M A (jK (.ref e) env) Q E s:=by
 unfold jK;simp only[hf];rcases ht with⟨h1,rfl⟩|⟨t,oT,ts,rfl,h1,_,hte,hT,hdT,h3⟩
 ·refine ao (cq he hd h1 ?_);rw[if_neg (by decide)];exact A1 hfr hl hf he hd (eP.mp h1).1 h
 ·refine ao (cq he hd h1 ?_);rw[if_pos (show(Value.ref t != Value.none)=true from by simp)];refine ao (cq hT hdT h3 ?_);rw[if_neg (show ¬((Value.none==rawInt L)=true)from by simp[rawInt])];refine ao (jg hT hdT (eP.mp h3).1 ?_);have oth:∀b,b≠t->(s.heap.update t (cY (·.setIfInBounds 3 Value.none))).get? b=s.heap.get? b:=fun b hb=>fj _ _ (cW hb);have tt:=g8 (cY (·.setIfInBounds 3 Value.none)) hT (kB (gZ hdT _));have nrec:∀b o,s.heap.get? b=some o->(∀ws,o.data≠.fields ws)->b≠t:=fun b o hb hnf q=>by
   rw[q,hT]at hb;cases hb;exact hnf ts hdT
  have sz:(s.heap.update t (cY (·.setIfInBounds 3 Value.none))).objs.size=s.heap.objs.size:=Heap.size_after_update ..;refine A1 (s:={ s with heap:=s.heap.update t (cY (·.setIfInBounds 3 Value.none)) }) hfr (hl.of_keeps fun b o hb hnf=>⟨o,(oth b (nrec b o hb hnf)).trans hb,rfl⟩) hf ((oth e (cW hte)).trans he) hd (eP.mp h1).1 ?_;intro h' vs' oT' ts' fl q1 q2 q3 q4 q5;rw[sz]at q2 q3;refine h h' vs' oT' ts' ⟨fun b o q nb nt nf=>fl.keep b o ((oth b fun z=>nt (by rw[z])).trans q) nb (by simp) nf,fun b o q nb nt nf=>fl.slot b o ((oth b fun z=>nt (by rw[z])).trans q) nb (by simp) nf,fun b o q=>?_⟩ q1 q2 q3 q4 q5;by_cases hb:b=t
  ·rw[hb];exact fl.there t _ tt
  ·exact fl.there b o ((oth b hb).trans q)
end
section
variable{X:Cx}{J6:Zd}{σ:St}{H:Hp}{s:Shared}{n:Nat}{a C:Addr}{od:Option Addr}
def Fly(X:Cx)(n:Nat)(h:Heap)(H:Hp)(a C:Addr)(od:Option Addr):Prop:=h_ n h H a C od∨AI n h H a C od X.env.locals
theorem Df{M:Model}{Q:Unit->Shared->Prop}{E:Zc}(I:Inv X J6 σ H s)(y:kf X J6 n)(st:X.stack=X.env::X.outer)(sf:X.env.frame=some X.env.locals)(fl:Fly X n s.heap H a C od)
  (h:∀s',Inv X J6 σ H s'->AI n s'.heap H a C od X.env.locals->Q () s'):wpAny M X.A (jK (.ref a) X.env) Q E s:=by
 rcases fl with fl|fl
 ·obtain⟨vs,T,e,z,tr,fT⟩:=fl.tr;have hsk:=I.stack;rw[st]at hsk;refine FB (n:=n) (base:=X.base) (by rw[I.ok.frames,st]) hsk sf e rfl tr fun h' vs' oT ts fw q1 q2 q3 q4 q5=>?_;have z':1<vs'.size:=(eP.mp q2).1;have hfs:∀b∈mi (X.env::X.outer),H b=none:=fun b hb=>I.stkFree b (by rw[st];exact hb);have ok':=yF I.hok fl.trk fT hfs fw q1 z';have nT:∀t,T=some t->n<=t:=fun t ht=>by
   rcases tr with⟨_,q⟩|⟨t',_,_,q,_,l,_⟩
   ·rw[q]at ht;cases ht
   ·rw[q]at ht;cases ht;exact l
  have inC:∀b,b≠X.env.locals->b∉X.fs->b∉mi (X.env::X.outer):=fun b h1 h2 hb=>by
   unfold mi at hb;rw[nc,sf]at hb;exact(bw.mp hb).elim h1 h2
  have notA:∀b,H b=none->b≠a:=fun b hb q=>by rw[q,fl.trk]at hb;cases hb
  obtain⟨m0,⟨oL,esL,epL,hoL,rL⟩,_⟩:=id I.loc;have hLin:X.env.locals∈mi (X.env::X.outer):=by unfold mi;rw[nc,sf];exact cp
  have hLT:some X.env.locals≠T:=fun q=>absurd (nT _ q.symm) (fF y.loc);obtain⟨slL,hL'⟩:=fw.slot _ oL hoL (notA _ I.free) hLT hLin;refine h _ (I.step (g':=s.gens) (d':=s.drawn) (t':=s.toks) (ch:=T.toList) (fun b hb=>?_) (fun b o hL hf hc g hn=>?_) (fun b o hL hf hc g hn=>?_) (fun b o _ _ hn=>hn) (fun b o _ g=>fw.there b o g)
   (fun _ _ g=>g) (fun _ _ _ g=>g) (fun b ps g=>⟨#[],by rw[g];simp⟩) (fun m hm=>?_) ok' I.bare) ⟨fl.trk,fl.new,vs',s.heap.objs.size,oT,ts,q1,q2,?_,?_,q3,q4,q5,?_⟩
  ·have hT:T=some b:=by cases T with
    |none=>simp at hb
    |some t=>simp at hb;rw[hb]
   have ny:=nT b hT;exact⟨.inr (bj y.s0 ny),fun q=>absurd ny (fF (q▸y.loc)),fun x c g q=>absurd ny (fF (q▸y.cell x c g)),fun p hp q=>absurd ny (fF (q▸y.pin p hp))⟩
  ·exact fw.keep b o g (notA b hn) (fun q=>hc (by rw[<-q];simp)) (inC b hL hf)
  ·refine fw.slot b o g (notA b hn) (fun q=>hc (by rw[<-q];simp)) ?_;unfold mi;rw[nc,sf];exact cj _ hf
  ·obtain⟨o',es',ep',ho',r'⟩:=hm;rw[hoL]at ho';cases ho';exact⟨_,es',ep',hL',r'⟩
  ·exact bj (bj fl.new (ei (aM e))) (aN _)
  ·exact eK (aM e)
  ·exact I.hok.fresh (aN _)
 ·obtain⟨vs,t,oT,ts,e,h1,ny,hta,hT,hdT,h3,nt⟩:=fl.tr;unfold jK;simp only[sf];refine ao (cq e rfl h1 ?_);rw[if_pos (show(Value.ref t != Value.none)=true from by simp)];refine ao (cq hT hdT h3 ?_);rw[if_pos (show(rawInt X.env.locals==rawInt X.env.locals)=true from by simp)];exact a_ (h s I fl)
theorem Dg{M:Model}{A:Around}{Q:Unit->Shared->Prop}{E:Zc}{L:Addr}(fr:Option Addr)(I:Inv X J6 σ H s)(y:kf X J6 n)(fl:AI n s.heap H a C od L)
  (h:∀s' vs t oT ts,Inv X J6 σ H s'->s'.heap.get? a=some { cls:=.ref C,dict:=od,data:=.fields vs }->vs[1]?=some (.ref t)->n<=t->t≠a->s'.heap.get? t=some oT->oT.data=.fields ts->ts[3]?=some (fr.elim Value.none fun f=>rawInt f)->H t=none->Q () s') :
  wpAny M A (jI (.ref a) fr) Q E s:=by
 obtain⟨vs,t,oT,ts,e,h1,ny,hta,hT,hdT,h3,nt⟩:=fl.tr;unfold jI;refine ao (cq e rfl h1 ?_);rw[if_pos (show(Value.ref t != Value.none)=true from by simp)];refine jg hT hdT (eP.mp h3).1 ?_;have kp:∀b o,b≠t->s.heap.get? b=some o->(s.heap.update t (cY (·.setIfInBounds 3 (fr.elim Value.none fun f=>rawInt f)))).get? b=some o:=fun b o nb g=>by
  rw[fj _ _ (cW nb)];exact g
 have hz3:=(eP.mp h3).1;exact h _ vs t _ _ (I.turned (t':=s.toks) (it:=t) kp nt (fun q=>absurd ny (fF (q▸y.loc))) (.inr (bj y.s0 ny)) (fun x c g q=>absurd ny (fF (q▸y.cell x c g))) (fun p hp q=>absurd ny (fF (q▸y.pin p hp))))
  (kp a _ (cW hta) e) h1 ny hta (g8 _ hT (kB (gZ hdT _))) (gZ hdT _) (by simp[hz3]) nt
theorem A0{M:Model}{Q:Unit->Shared->Prop}{E:Zc}(I:Inv X J6 σ H s)(y:kf X J6 n)(st:X.stack=X.env::X.outer)(sf:X.env.frame=some X.env.locals)(fl:Fly X n s.heap H a C od)
  (h:∀s',Inv X J6 σ H s'->h_ n s'.heap H a C od->Q () s'):wpAny M X.A (jK (.ref a) X.env) (fun _ s'=>wpAny M X.A (jI (.ref a) none) Q E s') E s:=by
 refine Df I y st sf fl fun s1 I1 f1=>Dg none I1 y f1 fun s2 vs t oT ts I2 q1 q2 q3 q4 q5 q6 q7 q8=>h s2 I2 ⟨f1.trk,f1.new,vs,some t,q1,(eP.mp q2).1,.inr ⟨t,oT,ts,rfl,q2,q3,q4,q5,q6,q7⟩,fun t' ht=>by cases ht;exact q8⟩
def Ho(X:Cx)(J6:Zd)(W:St->XK)(e:Value)(s':Shared):Prop:=∃n a C od σ' H',e=.ref a/\kf X J6 n/\Inv X J6 σ' H' s'/\Fly X n s'.heap H' a C od/\W σ' (.ref C) (some a) H'
theorem XS.two{W:St->XK}{e:Value}{s':Shared}(h:XS X J6 W e s'):Ho X J6 W e s':=let⟨n,a,C,od,σ',H',ea,y,I,fl,q⟩:=h;⟨n,a,C,od,σ',H',ea,y,I,.inl fl,q⟩
theorem zg{W:St->XK}{M:Model}(st:X.stack=X.env::X.outer)(sf:X.env.frame=some X.env.locals):AU M X.A X.env (Ho X J6 W):=by
 rintro e s' ⟨n,a,C,od,σ',H',rfl,y,I,fl,q⟩;refine Df I y st sf fl fun s1 I1 f1=>?_;obtain⟨vs,t,oT,ts,e1,h1,ny,hta,hT,hdT,h3,nt⟩:=id f1.tr;refine ao (cq e1 rfl h1 ?_);rw[if_neg (show ¬((Value.ref t==Value.none)=true)from by simp)];rw[sf];exact Dg (some X.env.locals) I1 y f1 fun s2 vs t oT ts I2 q1 q2 q3 q4 q5 q6 q7 q8=>⟨n,a,C,od,σ',H',rfl,y,I2,.inr ⟨f1.trk,f1.new,vs,t,oT,ts,q1,q2,q3,q4,q5,q6,q7,q8⟩,q⟩
end
def PY(X:Cx)(b:List Stmt)(t:(St->XK)->TS):Prop:=∀(J6:Zd) (s:Shared) (σ:St) (H:Hp) (D:il) (W:St->XK),Inv X J6 σ H s->t W D σ H->wpAny (model X.prog X.w) X.A (execs b X.env) (SP X J6 D) (Ho X J6 W) s
def JG(X:Cx)(b:Stmt)(t:(St->XK)->TS):Prop:=∀(J6:Zd) (s:Shared) (σ:St) (H:Hp) (D:il) (W:St->XK),Inv X J6 σ H s->t W D σ H->wpAny (model X.prog X.w) X.A (exec b X.env) (SP X J6 D) (Ho X J6 W) s
section
variable{X:Cx}{J6:Zd}{σ:St}{H:Hp}{s:Shared}{t u:(St->XK)->TS}{b:Stmt}{bs:List Stmt}{pos:Pos}
theorem G6(h:IL X b t):JG X b t:=fun J6 s σ H D W I q=>bU (h J6 s σ H D W I q) (fun _ _ z=>z) fun _ _ z=>z.two
theorem pi(h:JG X b t):PY X [b] t:=by
 intro J6 s σ H D W I q;refine AW (bU (h J6 s σ H D W I q) (fun f s1 q=>?_) fun _ _ y=>y);cases f with
 |next=>exact qb q
 |ret v=>exact q
 |brk=>exact q
 |cont=>exact q
theorem nS(h:JG X b t)(hs:PY X bs u):PY X (b::bs) (uM t u):=by
 intro J6 s σ H D W I q;refine AW (bU (h J6 s σ H _ W I q) (fun f s1 q=>?_) fun _ _ y=>y);cases f with
 |next=>obtain⟨σ1,H1,I1,q1⟩:=q;exact hs J6 s1 σ1 H1 D W I1 q1
 |ret v=>exact q
 |brk=>exact q
 |cont=>exact q
theorem DZ:PY X [] (zB bo):=fun _ _ σ H _ _ I h=>qb ⟨σ,H,I,h⟩
theorem G5{c:Expr}{a b:List Stmt}{tc:TT}{ta tb:(St->XK)->TS}(hc:PT X.nox c tc)(ha:PY X a ta)(hb:PY X b tb):JG X (.If c a b pos) (HF tc ta tb):=by
 intro J6 s σ H D W I h;refine wpAny_If (bU (hc J6 s σ H _ (I.wish _) h) (fun d s1 ⟨H1,I1,q1⟩=>?_) fun _ _ z=>da z);cases d with
 |true=>exact ha J6 s1 σ H1 D W I1.unwish q1
 |false=>exact hb J6 s1 σ H1 D W I1.unwish q1
def GX(te:XK->TE):(St->XK)->TS:=fun W D σ H=>te (W σ) σ H fun v H1=>D.rt v H1
def GY(wi:TI)(g:TG)(tb:(St->XK)->TS):(St->XK)->TS:=fun W=>fJ wi g (tb W)
theorem Ho.unpinned{pl:Zd}{W:St->XK}{e:Value}{s':Shared}(h:Ho X (J6++pl) W e s'):Ho X J6 W e s':=by
 obtain⟨n,a,C,od,σ',H',ea,y,I,fl,q⟩:=h;exact⟨n,a,C,od,σ',H',ea,⟨y.s0,y.loc,y.cell,fun p hp=>y.pin p (by rcases bJ.mp hp with z|z;exact cJ _ z;exact dw _ (cJ _ z))⟩,I.unpinned,fl,q⟩
theorem HV{tg iter:Expr}{body:List Stmt}{wi:TI}{g:TG}{tb:(St->XK)->TS}(hc:X.calm=true)(hi:PI X.nox tg iter wi)(hg:PG X.nox tg g)(hb:PY X body tb)
  (hs:∀x,uE iter X.env x=pure x:=by intro _;rfl) (st:X.stack=X.env::X.outer:=by rfl) (sf:X.env.frame=some X.env.locals:=by rfl):JG X (.For tg iter body [] pos) (GY wi g tb):=by
 intro J6 s σ H D E I h;have hp:AU (model X.prog X.w) X.A X.env (Ho X J6 E):=zg st sf;refine wpAny_For (bU (hi J6 s σ H _ (I.wish _) h) (fun v s1 h1=>bU h1 (fun itv s2 h2=>?_) fun _ _ z=>da z) fun _ _ z=>da z) hs;obtain⟨it,fp,tn,J,H2,e,I2',T,st2,f2',W,⟨m0,w0⟩,turn⟩:=h2;subst e;have I2:=I2'.unwish;have f2:∀b∈fp,lr X J6 H2 b:=f2';have stat:∀{H':Hp},(∀b∈fp,H' b=none)->∀b∈fp,lr X J6 H' b:=fun hn b hb=>⟨hn b hb,(f2 b hb).2⟩;refine codeAny_forLoop_any (fun n s'=>∃i σ' H',Inv X J6 σ' H' s'/\tn i s'.heap/\(∀b∈fp,H' b=none)/\W i n σ' H') ?_ m0 ⟨0,σ,H2,I2,st2,fun b hb=>(f2 b hb).1,w0⟩;rintro n s3 ⟨i,σ3,H3,I3,st3,fr3,w3⟩;rcases turn i n σ3 H3 w3 with⟨stop,qn⟩|⟨go,N,hN,step⟩
 ·refine j8 hp (bU (T.done X rfl rfl rfl hc i J6 s3 σ3 H3 _ I3 (stat fr3) st3 stop) (fun r s4 ⟨hr,I4⟩=>?_) fun _ _ z=>z);subst hr;exact qb ⟨σ3,H3,I4,qn⟩
 ·refine j8 hp (bU (T.item X rfl rfl rfl hc i J6 s3 σ3 H3 _ I3 (stat fr3) st3 go) (fun r s4 ⟨u,hr,h4⟩=>?_) fun _ _ z=>z);subst hr;refine j8 hp (bU h4 (fun _ s5 ⟨x,H5,I5,r5,y5,st5,fr5⟩=>?_) fun _ _ z=>z);have I5':=I5.pinned (stat fr5) (T.obj _ _ st5);refine j8 hp (bU (hg _ s5 σ3 H5 x u _ (I5'.wish _) r5 (step x H5 y5)) (fun _ s6 ⟨σ6,H6,I6,q6⟩=>?_) fun _ _ z=>da z);refine j8 hp (bU (hb _ s6 σ6 H6 _ E I6.unwish q6) (fun f s7 q7=>?_) fun _ _ z=>z.unpinned);have again:∀{σ7:St}{H7:Hp},Inv X (J6++pj fp s5.heap) σ7 H7 s7->N σ7 H7->∃m,m<n/\∃i σ' H',Inv X J6 σ' H' s7/\tn i s7.heap/\(∀b∈fp,H' b=none)/\W i m σ' H':=fun{σ7 H7} I7 n7=>by
   obtain⟨m',hm,w7⟩:=hN σ7 H7 n7;refine⟨m',hm,i+1,σ7,H7,I7.unpinned,T.keep _ _ _ st5 fun b hb o e=>(I7.pin (b,o) (dw _ (dw _ (gp hb e)))).1,fun b hb=>?_,w7⟩;obtain⟨o,e,d⟩:=T.obj _ _ st5 b hb;exact(I7.pin (b,o) (dw _ (dw _ (gp hb e)))).2.1
  cases f with
  |next=>obtain⟨σ7,H7,I7,n7⟩:=q7;exact again I7 n7
  |cont=>obtain⟨σ7,H7,I7,n7⟩:=q7;exact again I7 n7
  |brk=>obtain⟨σ7,H7,I7,q7⟩:=q7;exact⟨σ7,H7,I7.unpinned,q7⟩
  |ret v=>obtain⟨x7,σ7,H7,I7,r7,q7⟩:=q7;exact⟨x7,σ7,H7,I7.unpinned,r7,q7⟩
theorem Gb{body:List Stmt}{h0:vw}{hs:List vw}{tb:(St->XK)->TS}{th:il->St->XK}(hb:PY X body tb)(hh:PH X (h0::hs) th)(st:X.stack=X.env::X.outer:=by rfl)(sf:X.env.frame=some X.env.locals:=by rfl):
  PS X (.Try body (h0::hs) [] [] pos) (Je tb th):=by
 intro J6 s σ H D I h;refine wpAny_Try_except (bU (hb J6 s σ H D (th D) I h) (fun f s1 q=>?_) fun e s1 ⟨n,a,C,od,σ',H',ea,y,I',fl,q⟩=>?_)
 ·cases f with
  |next=>exact qb q
  |ret v=>exact q
  |brk=>exact q
  |cont=>exact q
 ·subst ea;exact A0 I' y st sf fl fun s2 I2 fl2=>hh J6 _ s2 σ' H' D a C od I2 y fl2 q
end
theorem D_{P:bB}{w:World}{K:Za}{mg:Str->Option Value}{base:Heap}{N:Zb}{qual:Str}{scope:Scope}{f:Addr}{cd:Value}{A:Around}{outer:List Env}{s0:Shared}{H0:Hp}{E:XK}{b:List Stmt}{t:(St->XK)->TS}
  (h:PY (tG (BW P w K) P w K mg base N qual scope f cd A outer s0 H0 E) b t):xy (tG (BW P w K) P w K mg base N qual scope f cd A outer s0 H0 E) b (t fun _=>E):=by
 intro J6 s σ H D I q;refine bU (h J6 s σ H D (fun _=>E) I q) (fun _ _ z=>z) fun e s' ⟨n,a,C,od,σ',H',ea,y,I',fl,q⟩=>?_;subst ea;show wpAny _ _ _ _ _ _;unfold leaving;exact ao (A0 I' y rfl rfl fl fun s'' I'' fl''=>⟨a,C,od,H',rfl,I''.os,I''.bare,I''.base,I''.hok,fl''.mono y.s0,q⟩)
section
variable{X:Cx}{k:Nat}{ps:Zb}{sp:Sp}{x m:Str}{C:Addr}{p pos J8:Pos}{o e:Expr}{es:List Expr}{t:TA}{ta:TE}
theorem HX{te:XK->TE}(he:IM X e te):IL X (.Return (some e) pos) (GX te):=by
 intro J6 s σ H D W I h;exact wpAny_Return_some (bU (he J6 s σ H _ (W σ) I h) (fun v s1 ⟨x,H1,I1,r1,q1⟩=>⟨x,σ,H1,I1,r1,q1⟩) fun _ _ z=>z.xs)
end
def GV:Expr->List Str
 |.Name x _=>[x]
 |.Tuple es _ _=>es.filterMap fun e=>match e with | .Name x _=>some x|_=>none
 |_=>[]
theorem bK{X:Cx}{b:List Stmt}{t:TS}{D:il}{σ:St}{H:Hp}(r:t D σ H)(p:xy X b t):∃t,xy X b t/\t D σ H:=⟨t,p,r⟩
section
variable{X:Cx}{k k0:Nat}{ps:Zb}{sp:Sp}{x m:Str}{C:Addr}{p pos J8:Pos}{o e a b:Expr}{es:List Expr}{t:TA}{ta tb te:TE}
theorem qf(hr:du k0 X.A)(D:iT X.prog X.w X.K X.mg X.base x ps k sp)(ha:PA X (e::es) t)(hk:k<=k0:=by decide)(hg:Gl X x:=by rfl)(hdb:(x==("__debug__":Str))=false:=by decide)
  (he:aB (e::es) X.env=(false,eval e X.env)::aB es X.env:=by rfl) (hpl:(backTo pos (aB es X.env)).any (·.1)=false:=by rfl) :
  PE X (.Call (.Name x p) (e::es) [] pos) (aR sp t):=G_ D (hr.mono hk) hg ha hdb he hpl
theorem G4{pl:Sem Bool}(hr:du k0 X.A)(M:IQ X.prog X.w X.K X.mg X.base C m ps k sp)(he:PE X o ta)(hk:k<=k0:=by decide)
  (ht:eval (.Call (.Attribute o m J8) [] [] pos) X.env=(do
   let ov <- eval o X.env
   uF J8.atName
   let(f,first) <- m_ [ov] (uD ov m pl)
   vS pos f first (backTo pos (aB [] X.env)) (oR pos (oQ [] X.env))):=by rfl) :
  PE X (.Call (.Attribute o m J8) [] [] pos) (jv C m sp [] E0 ta bF):=Gf (pl:=pl) M (hr.mono hk) he ht
theorem xl(ha:PE X a ta)(hb:PE X b tb)(hs:CU b:=by exact fun _ _=>rfl):PE X (.Subscript a b pos) (aK (c6 X.K) ta tb):=Bm By ha hb hs
theorem xt(ha:PE X a ta)(hb:PE X b tb)(hs:CU b:=by exact fun _ _=>rfl):PE X (.Subscript a b pos) (aK (ym X.K) ta tb):=Bm EO ha hb hs
theorem xq(ha:PE X a ta)(hb:PE X b tb)(hs:CU b:=by exact fun _ _=>rfl):PE X (.Subscript a b pos) (aK (Cq X.K) ta tb):=Bm Io ha hb hs
theorem xs'(ha:PE X a ta)(hb:PE X b tb)(hs:CU b:=by exact fun _ _=>rfl):PE X (.Subscript a b pos) (aK z0 ta tb):=Bm EQ ha hb hs
theorem lF{op:CmpOp}{r:R2}(ho:ml X (eB op) r)(ha:PE X a ta)(hb:PE X b tb)(hm:j9 op b=false:=by exact Ez _):PT X (.Compare a [op] [b] pos) (bx (aK r ta tb)):=Bj ho ha hb hm
theorem wY{op:CmpOp}{r:R2}(ho:ml X (eB op) r)(ha:PE X a ta)(hb:PE X b tb)(hm:j9 op b=false:=by exact Ez _):PE X (.Compare a [op] [b] pos) (aK r ta tb):=Bn ho ha hb hm
theorem FM{op:CmpOp}{r:R2}(ho:ml X (eB op) r)(ha:PE X a ta)(hb:PE X b tb)(hm:j9 op b=false:=by with_unfolding_all rfl):PT X (.Compare a [op] [b] pos) (bx (aK r ta tb)):=Bj ho ha hb hm
theorem Jz{op:CmpOp}{r:R2}(ho:ml X (eB op) r)(ha:PE X a ta)(hb:PE X b tb)(hm:j9 op b=false:=by with_unfolding_all rfl):PE X (.Compare a [op] [b] pos) (aK r ta tb):=Bn ho ha hb hm
theorem qB{id:String}{r:List V->Hp->VK->Prop}(hc:gS X (.builtin id) r)(hm:X.mg x=none)(hv:iX x=some (.builtin id))(ha:PA X (e::es) t)(hg:Gl X x:=by rfl)(hn:x≠"__name__":=by decide)(hdb:(x==("__debug__":Str))=false:=by decide)
  (he:aB (e::es) X.env=(false,eval e X.env)::aB es X.env:=by rfl) (hpl:(backTo pos (aB es X.env)).any (·.1)=false:=by rfl):PE X (.Call (.Name x p) (e::es) [] pos) (dD r t):=yr hc hg hm hv ha hn hdb he hpl
theorem qL(hc:X.calm=true)(hm:X.mg "list"=none)(ha:PA X (e::es) t)(hg:Gl X "list":=by rfl)
  (he:aB (e::es) X.env=(false,eval e X.env)::aB es X.env:=by rfl) (hpl:(backTo pos (aB es X.env)).any (·.1)=false:=by rfl):PE X (.Call (.Name "list" p) (e::es) [] pos) (dD (fL X.K) t):=lP (Ax hc) hg hm tN ha (by decide) (by decide) he hpl
theorem ql(hm:X.mg "len"=none)(ha:PA X (e::es) t)(hg:Gl X "len":=by rfl)
  (he:aB (e::es) X.env=(false,eval e X.env)::aB es X.env:=by rfl) (hpl:(backTo pos (aB es X.env)).any (·.1)=false:=by rfl):PE X (.Call (.Name "len" p) (e::es) [] pos) (dD (cV X.K) t):=yr CQ hg hm PySem.boot_len ha (by decide) (by decide) he hpl
theorem qs(i:Nat){pos':Pos}(hN:X.N.Nodup)(he:PE X e te)(hi:X.N[i]?=some x:=by rfl)(hx:Loc X.env.scope x:=by first|exact Or.inl rfl|exact Or.inr rfl)(hs:l_ e (some (.Name x pos')) pos.line X.env=pure false:=by rfl)(hf:X.fn x=true∨X.env.scope.names.lookup x=some .local:=by first|exact .inl rfl|exact .inr rfl|assumption):
  PS X (.Assign [.Name x pos'] e pos) (aV te (d4 i)):=HY hN hi hx he hs hf
theorem gn(i:Nat)(hN:X.N.Nodup)(hi:X.N[i]?=some x:=by rfl)(hx:Loc X.env.scope x:=by first|exact Or.inl rfl|exact Or.inr rfl)(hf:X.fn x=true∨X.env.scope.names.lookup x=some .local:=by first|exact .inl rfl|exact .inr rfl|assumption):PG X (.Name x pos) (d4 i):=Bl hN hi hx hf
theorem gc(i:Nat)(hN:X.N.Nodup:=by exact of_decide_eq_true (by with_unfolding_all rfl))(hi:X.N[i]?=some x:=by rfl)(hx:Loc X.env.scope x:=by exact Or.inl rfl)(hf:X.fn x=true∨X.env.scope.names.lookup x=some .local:=by first|exact .inl rfl|exact .inr rfl|assumption):PG X (.Name x pos) (d4 i):=Bl hN hi hx hf
theorem a1(ha:PE X a ta)(hs:aB [a] X.env=(false,eval a X.env)::aB [] X.env:=by rfl):PA X [a] (az ta bF):=cc ha fu hs
theorem a2(ha:PE X a ta)(hb:PE X b tb)(hs:aB [a,b] X.env=(false,eval a X.env)::aB [b] X.env:=by rfl)(hs2:aB [b] X.env=(false,eval b X.env)::aB [] X.env:=by rfl):PA X [a,b] (az ta (az tb bF)):=cc ha (cc hb fu hs2) hs
theorem a3{c:Expr}{tc:TE}(ha:PE X a ta)(hb:PE X b tb)(hc:PE X c tc)(hs:aB [a,b,c] X.env=(false,eval a X.env)::aB [b,c] X.env:=by rfl)(hs1:aB [b,c] X.env=(false,eval b X.env)::aB [c] X.env:=by rfl)(hs2:aB [c] X.env=(false,eval c X.env)::aB [] X.env:=by rfl):PA X [a,b,c] (az ta (az tb (az tc bF))):=cc ha (a2 hb hc hs1 hs2) hs
variable{elt iter tg:Expr}{ifs:List Expr}{scope:Scope}{fi:List Nat}{wi:TI}{g:TG}{tc:TT}
theorem qc(hi:PI X tg iter wi)(ho:yZ k g)
  (h:∀C cl s₀ H₀ ex pn,PG (dW X (GV tg++fi.map fun i=>X.N.getD i "") scope C cl s₀ H₀ ex pn) tg g/\Hr (dW X (GV tg++fi.map fun i=>X.N.getD i "") scope C cl s₀ H₀ ex pn) ifs tc/\PE (dW X (GV tg++fi.map fun i=>X.N.getD i "") scope C cl s₀ H₀ ex pn) elt te)
  (hS:lV X.env.scope scope k (GV tg++fi.map fun i=>X.N.getD i "") X.N fi=true:=by with_unfolding_all rfl) (hc:X.calm=true:=by rfl)
  (hs:∀x,uE iter X.env x=pure x:=by intro _;rfl):PE X (.ListComp elt [⟨tg,iter,ifs,0⟩] scope pos) (dQ k fi wi g tc te) :=
 Gh hS hc hi (fun _ _ _ _ _ _=>(h _ _ _ _ _ _).1) ho (fun _ _ _ _ _ _=>(h _ _ _ _ _ _).2.1) (fun _ _ _ _ _ _=>(h _ _ _ _ _ _).2.2) hs
theorem JY(j:Nat){y:Str}{spos py:Pos}(hN:X.N.Nodup)(hi:PI X tg iter wi)(ho:yZ k g)
  (h:∀C cl s₀ H₀ ex pn,PG (dW X (GV tg++fi.map fun i=>X.N.getD i "") scope C cl s₀ H₀ ex pn) tg g/\Hr (dW X (GV tg++fi.map fun i=>X.N.getD i "") scope C cl s₀ H₀ ex pn) ifs tc/\PE (dW X (GV tg++fi.map fun i=>X.N.getD i "") scope C cl s₀ H₀ ex pn) elt te)
  (hj:X.N[j]?=some y:=by rfl) (hy:Loc X.env.scope y:=by first|exact Or.inl rfl|exact Or.inr rfl)
  (hS:lV X.env.scope scope k (GV tg++fi.map fun i=>X.N.getD i "") X.N fi=true:=by with_unfolding_all rfl) (hc:X.calm=true:=by rfl)
  (hsw:l_ (.ListComp elt [⟨tg,iter,ifs,0⟩] scope pos) (some (.Name y py)) spos.line X.env=pure true:=by rfl)
  (hs:∀x,uE iter X.env x=pure x:=by intro _;rfl) (hf:X.fn y=true∨X.env.scope.names.lookup y=some .local:=by first|exact .inl rfl|exact .inr rfl|assumption) :
  PS X (.Assign [.Name y py] (.ListComp elt [⟨tg,iter,ifs,0⟩] scope pos) spos) (aV (dQ k fi wi g tc te) (d4 j)) :=
 z6 hN hj hy hS hc hi (fun _ _ _ _ _ _=>(h _ _ _ _ _ _).1) ho (fun _ _ _ _ _ _=>(h _ _ _ _ _ _).2.1) (fun _ _ _ _ _ _=>(h _ _ _ _ _ _).2.2) hsw hs hf
end
end L2
end

section
set_option Elab.async false
set_option linter.all false
set_option maxRecDepth 100000
namespace L2
open PySem PySem.Spec PyProof.Rows
def Jy(K:Za)(n:Nat)(t:xK):TG:=fun v σ H Q=>∃a xs,v=.ref a/\aA K H a xs/\xs.length=n/\t xs σ H Q
theorem Ib{X:Cx}{pos:Pos}{es:List Expr}{k:Nat}{t:xK}{n:Nat}(hc:X.calm=true)(h:JI X es t)
  (hn:(qa es X.env).length=n:=by rfl) (hst:(qa es X.env).findIdx? (·.1)=none:=by rfl):PG X (.Tuple es k pos) (Jy X.K n t):=by
 intro J6 s σ H v u Q I r hw;obtain⟨a,xs,e1,hq,hl,hw⟩:=hw;subst e1;cases r;obtain⟨its,rv,ht,hz⟩:=I.list hq;have hsz:its.toArray.size=n:=by rw[cr,<-rv.length,hl]
 rw[assign_Tuple];refine ao (p_ ?_);unfold unpack;rw[hst,hn,<-hsz];refine ao (kE (PySem.W.kun_itemsOf (I.ok.hd hc) ht.isList fun h' hx=>?_));have I1:Inv X J6 σ H { s with heap:=h' }:=I.kept (t':=s.toks) fun b o e=>hx b o (cx (aM e)) e;exact h J6 _ σ H xs _ Q I1 (by simpa using rv) hw
theorem mf:∀(k:Nat) (ys:Zb),bg (ys.map V.str) (strsFrom k ys)
 |_,[]=>.nil
 |k,y::ys=>.cons ⟨_,rfl⟩ (mf (k+1) ys)
def sL:V->List V->Hp->VK->Prop:=fun x vs H Q=>∃z y,x=.str z/\vs=[.str y]/\(y.length==0)=false/\z.length<=aj/\(bL z y).length<=aj/\∀l,H l=none->Q (.ref l) (upd H l (.lst ((bL z y).map V.str)))
theorem nX{X:Cx}:JK X "str.split" sL:=by
 intro J6 s σ H x vs v us Q I rx rv h;obtain⟨z,y,rfl,rfl,hy,hz,hl,q⟩:=h;obtain⟨t,rfl⟩:=rx;obtain⟨u,rfl,ru⟩:=rv.one;obtain⟨t2,rfl⟩:=ru;have itself:bL z y=[z]->EP X J6 σ Q (.ref s.heap.objs.size) { s with heap:=s.heap.push { cls:=.type "list",data:=.seq #[.str z t] } }:=fun e=>by
  have h1:=q s.heap.objs.size (I.hok.fresh (aN _));rw[e]at h1 hl;refine⟨.ref s.heap.objs.size,_,I.laid (t':=s.toks) (o:=.lst ([z].map V.str)) (fun b ob e=>bb _ e) (aN _) ⟨hl,[.str z t],0,.cons ⟨_,rfl⟩ .nil,dz _ rfl⟩,rfl,h1⟩
 by_cases c1:(decide (z.length<y.length) || decide (vt z<vt y))=true
 ·exact oJ F.slot_str_split rfl F.entry_str_split (F.args_str_split_2 _ _) (meets_str_split_cannot_occur z y t t2 c1) (itself (by unfold bL;rw[if_pos c1]))
 ·have c1':(decide (z.length<y.length) || decide (vt z<vt y))=false:=by simpa using c1
  cases c2:(cO.Str.occurrences z y 0 z.length (z.length+1)).isEmpty with
  |true=>exact oJ F.slot_str_split rfl F.entry_str_split (F.args_str_split_2 _ _) (meets_str_split_not_found z y t t2 c1' hy c2) (itself (by unfold bL;rw[if_neg c1,if_pos c2]))
  |false =>
   have e:bL z y=cO.Str.partsBetween z (cO.Str.occurrences z y 0 z.length (z.length+1)) y.length:=by
    unfold bL;rw[if_neg c1,if_neg (by rw[c2];decide)]
   have h1:=q s.heap.objs.size (I.hok.fresh (aN _));rw[e]at h1 hl;refine oJ F.slot_str_split rfl F.entry_str_split (F.args_str_split_2 _ _) (meets_str_split_sep z y t t2 c1' hy c2 hz hl) ?_;exact⟨.ref s.heap.objs.size,_,I.laid (o:=.lst (_:List V)) (fun b ob e=>bb _ e) (aN _) ⟨by rw[am];exact hl,_,0,mf _ _,dz _ rfl⟩,rfl,h1⟩
end L2
end
section
namespace L2
open PySem PySem.Spec PyProof.Rows
open Sem (wp)
end L2
end
set_option Elab.async false
set_option linter.all false
set_option maxRecDepth 100000
set_option maxHeartbeats 4000000
namespace Mum
open PySem PySem.Spec PyProof.Rows L2
def vX(K:Za):TS :=
 ax (cG (bx (aK rGeI V0 (aK G3 (tC (.int 10)) (tC (.int 18))))) (aZ V0) (bo))
 (ax (aV (aK i6 (aK eN (aK eN (aK kQ (aK i6 V0 (tC (.int 1000000007))) (tC (.int 69069))) (aK kQ V1 (tC (.int 40503)))) (tC (.int 977))) (tC (.int 2147483629))) U2)
 (ax (aV (aK i6 (aK eN (aK eN (aK kQ V2 V2) (aK kQ V1 (tC (.int 7919)))) (aK i6 V0 (tC (.int 65537)))) (tC (.int 2147483587))) U3)
 (ax (aV (aK i6 (aK eN (aK eN (aK kQ V3 V3) (aK kQ V2 (tC (.int 31)))) (tC (.int 5))) (tC (.int 2147483563))) U4)
 (aZ (aK eN (aK kQ (aK eN (aK kQ V2 (tC (.int 2147483659))) V3) (tC (.int 2147483693))) V4)))))
def xA:List Str:=["cell","at","one","two","three"]
def zv(K:Za):TS :=
 ax (aV (dD (fL K) (aE (mZ (jj K) V0 (bI) (cy (tC (.int 12)))))) U1)
 (ax (fJ (lh K (aE (mZ (jj K) V0 (cy (tC (.int 12))) (cy (tC (.int 63)))))) (ic K 2 (be U2 (be U3 (g_)))) (aV (aK eN (aK (c6 K) V1 (aK i6 V2 (tC (.int 12)))) V3) (Aq V1 (aK i6 V2 (tC (.int 12))) sM)))
 (aZ (eI (gH V1 (tC (.int 0)) (tC (.int 0))))))
def AD:List Str:=["script","cells","k","cell"]
def zw(K:Za):TS :=
 ax (aV (tC (.int 0)) (Aq V0 (tC (.int 2)) sM))
 (aZ V0)
def AF:List Str:=["pen"]
def zu(K:Za)(sp_law_spread:Sp):TS :=
 ax (cG (bx (aK zZ (aK (c6 K) V0 (tC (.int 2))) V1)) (ax (aV (aK (c6 K) V0 (tC (.int 1))) U2)
 (ax (aV (tC (.int 0)) U3)
 (ax (cG (bx (aK zZ V2 (dD (cV K) (aE (aK (c6 K) V0 (tC (.int 0))))))) (aV (aK (c6 K) (aK (c6 K) V0 (tC (.int 0))) V2) U3) (cG (bx (aK Cr (dD (cV K) (aE (aK (c6 K) V0 (tC (.int 0))))) (tC (.int 0)))) (aV (aK i6 (aK (c6 K) (aK (c6 K) V0 (tC (.int 0))) (aK i6 (aK eN (aK kQ V2 (tC (.int 5))) (tC (.int 3))) (dD (cV K) (aE (aK (c6 K) V0 (tC (.int 0))))))) (aK eN (aK G3 (tC (.int 10)) (tC (.int 17))) V2)) U3) (bo)))
 (ax (aV (aK eN V2 (tC (.int 1))) (Aq V0 (tC (.int 1)) sM))
 (aV (aR sp_law_spread (ba V3 V2)) (Aq V0 (tC (.int 2)) sM)))))) (bo))
 (ax (aV (aK i6 (aK (c6 K) V0 (tC (.int 2))) V1) U4)
 (ax (aV (aK DY (aK (c6 K) V0 (tC (.int 2))) V1) (Aq V0 (tC (.int 2)) sM))
 (aZ V4)))
def AC:List Str:=["pen","many","at","cell","found"]
def xX(K:Za)(sp_law_take:Sp):TS :=
 ax (aV (tC (.str "abcdefghijklmnopqrstuvwxyz")) U2)
 (ax (aV (uf K "str" (uS K) (tC (.str "")) (az (dQ 1 [2,0] (s_ (aE (tC (.int 7)))) U0 (ju) (aK z0 V1 (aR sp_law_take (ba V2 (tC (.int 26)))))) bF)) U3)
 (ax (aV (aR sp_law_take (ba V0 (tC (.int 3)))) U4)
 (ax (aV (aR sp_law_take (ba V0 (tC (.int 26)))) U5)
 (ax (aV (aR sp_law_take (ba V0 (tC (.int 8)))) U6)
 (ax (aV (eI (bF)) U7)
 (ax (fJ (s_ (aE V1)) U8 (ax (aV (aK z0 V2 (aK i6 (aK eN V5 (aK kQ (tC (.int 3)) V8)) (tC (.int 26)))) U9)
 (ax (aV (mZ ul V3 (bI) (cy (aK i6 (aK eN V6 (aK kQ V8 (aK i6 V4 (tC (.int 2))))) (tC (.int 8))))) U10)
 (ax (aV (aK (c6 K) (eI (gH (tC (.int 0)) (dD (cV K) (aE IY)) (aK DY (dD (cV K) (aE IY)) (tC (.int 2))))) V4) U11)
 (eE (uf K "list" fM V7 (aE (aK fC (aK fC (mZ ul IY (bI) (cy Ka)) V9) (mZ ul IY (cy Ka) (bI))))))))))
 (aZ V7)))))))
def y4:List Str:=["pen","many","letters","base","way","turn","size","found","k","sign","part","at"]
def B_(K:Za):TS :=
 cG (bx (aK (nR K true) V1 V0)) (eE (uf K "list" fM V0 (aE V1))) (bo)
def CV:List Str:=["doors","door"]
def o0(K:Za)(sp_law_take:Sp)(sp_law_put:Sp):TS :=
 ax (aV (eI (bF)) U5)
 (ax (aV (aR sp_law_take (ba V0 (tC (.int 2)))) U6)
 (ax (fJ (lh K (aE V3)) (ic K 2 (be U7 (be U8 (g_)))) (ax (fJ (s_ (az (aK (c6 K) (eI (az (tC (.int 0)) (gH (tC (.int 1)) (tC (.int 1)) (tC (.int 2))))) (aR sp_law_take (ba V0 (tC (.int 4))))) bF)) U9 (ax (aV (dZ (az (tC (.str "say")) (az (aK (c6 K) V2 (aR sp_law_take (ba V0 (dD (cV K) (aE V2))))) bF))) U10)
 (eE (aR sp_law_put (az V5 (az (dZ (az V8 (az IY (az (aK (c6 K) V3 (aR sp_law_take (ba V0 (dD (cV K) (aE V3))))) bF)))) bF))))))
 (ax (fJ (dq K V1) U11 (fJ (s_ (az (aK (c6 K) (eI (az V4 (gH (tC (.int 1)) (tC (.int 1)) (tC (.int 2))))) (aR sp_law_take (ba V0 (tC (.int 4))))) bF)) U9 (eE (aR sp_law_put (az V5 (az (dZ (az V8 (az (dZ (ba (tC (.str "ask")) Ka)) (az (aK (c6 K) V3 (aR sp_law_take (ba V0 (dD (cV K) (aE V3))))) bF)))) bF))))))
 (ax (aV (aK (c6 K) (eI (az (mZ (jj K) V3 (cy (aK eN V7 (tC (.int 1)))) (bI)) (aE (mZ (jj K) V3 (bI) (cy V7))))) V6) U12)
 (cG (zM (bx (aK (F0 K) J_ (eI (bF)))) (bx (aK qJ (aR sp_law_take (ba V0 (tC (.int 3)))) (tC (.int 0))))) (eE (aR sp_law_put (az V5 (az (dZ (az V8 (az (dZ (aE (tC (.str "still")))) (az (aK (Cq K) J_ (aR sp_law_take (ba V0 (dD (cV K) (aE J_))))) bF)))) bF)))) (bo))))))
 (aZ V5)))
def pS:List Str:=["pen","asks","says","rooms","full","doors","down","k","room","turn","sign","ask","later"]
def xY(K:Za)(sp_law_draw_doors:Sp)(sp_law_names:Sp)(sp_law_take:Sp)(sp_law_anew:Sp):TS :=
 ax (eE (aR sp_law_anew (aE V0)))
 (ax (aV (aR sp_law_names (ba V0 (tC (.int 8)))) U3)
 (ax (aV (mZ (jj K) V3 (bI) (cy (aK eN (tC (.int 1)) (aK (c6 K) (eI (az (tC (.int 0)) (az (tC (.int 1)) (az (tC (.int 1)) (gH (tC (.int 2)) (tC (.int 2)) (tC (.int 3))))))) (aR sp_law_take (ba V0 (tC (.int 6)))))))) U4)
 (ax (aV (mZ (jj K) V3 (cy (tC (.int 4))) (cy (aK eN (tC (.int 5)) (aK (c6 K) (eI (az (tC (.int 0)) (az (tC (.int 1)) (az (tC (.int 1)) (gH (tC (.int 2)) (tC (.int 2)) (tC (.int 3))))))) (aR sp_law_take (ba V0 (tC (.int 6)))))))) U5)
 (ax (aV (aR sp_law_names (ba V0 (aK eN (tC (.int 1)) (aR sp_law_take (az V0 (aE V1)))))) U6)
 (ax (aV (aR sp_law_draw_doors (az V0 (az V4 (gH V5 V6 V2)))) U7)
 (aZ (dZ (az V4 (gH V5 V6 V7)))))))))
def y6:List Str:=["pen","most","full","words","asks","says","rooms","doors"]
def Cb(K:Za):TS :=
 aZ (iC (aK HS V0 (tC (.str ""))) (iC (aK HU (dD (cV K) (aE V0)) (tC (.int 8))) (dD (Cu K) (aE (dQ 1 [] (Ir V0) U0 (ju) (aK Jn V0 (tC (.str "abcdefghijklmnopqrstuvwxyz"))))))))
def CY:List Str:=["text"]
def Cg(K:Za):TS :=
 ax (aV (v9) U1)
 (ax (fJ (dq K V0) U2 (sI V1 V2 (tC (.bl true))))
 (aZ V1))
def C3:List Str:=["things","keys","thing"]
def mC(K:Za)(sp_is_name:Sp)(sp_as_keys:Sp):TS :=
 ax (cG (bx (aK qJ (dD (cV K) (aE V0)) (tC (.int 0)))) (aZ (tC (.int 0))) (bo))
 (ax (aV (aR sp_as_keys (aE V2)) U3)
 (ax (fJ (lh K (aE V0)) (ic K 2 (be U4 (be U5 (g_)))) (ax (cG (C8 (bx (aK qJ V4 V1)) (C8 (tB (Dw K V5 V3)) (sw (tB (aR sp_is_name (aE V5)))))) (aZ V4) (bo))
 (sI V3 V5 (tC (.bl true)))))
 (aZ (tC .non))))
def mU:List Str:=["names","most","taken","ahead","number","name"]
def vY(K:Za)(a_STILL:Addr):TS :=
 aZ (aK uo (aK uo (dQ 1 [] (dq K V0) U0 (ju) (dZ (ba (tC (.str "ask")) V0))) (dQ 1 [] (dq K V1) U0 (ju) (dZ (ba (tC (.str "say")) V0)))) (eI (aE (tC (.ref a_STILL)))))
def xB:List Str:=["asks","says"]
def mD(K:Za)(sp_as_keys:Sp):TS :=
 ax (aV (aR sp_as_keys (aE V1)) U3)
 (ax (aV (v8) U4)
 (ax (fJ (lh K (aE V0)) (ic K 2 (be U5 (be U6 (g_)))) (ax (cG (C8 (bx (aK qJ V5 (tC (.int 2000)))) (tB (Dw K V6 V4))) (aZ V5) (bo))
 (ax (cG (C8 (tB (qV K (aK (Cq K) V6 (tC (.int 0))) V3)) (C8 (bx (aK (nR K true) (aK (Cq K) V6 (tC (.int 1))) V2)) (tB (qV K (aK (Cq K) V6 (tC (.int 2))) V3)))) (aZ V5) (bo))
 (sI V4 V6 (tC (.bl true))))))
 (aZ (tC .non))))
def mV:List Str:=["doors","rooms","signs","own_rooms","ahead","number","door"]
def iU(K:Za):TS :=
 ax (aV (v8) U1)
 (ax (fJ (dq K V0) (ic K 3 (be U2 (be U3 (be U4 (g_))))) (eE (uf K "list" fM (uf K "dict" Bh V1 (ba (dZ (az V2 (aE V3))) (eI (bF)))) (aE V4))))
 (aZ V1))
def iV:List Str:=["doors","goals","start","sign","goal"]
def sk(K:Za)(a_STILL:Addr):TS :=
 ax (aV (v9) U2)
 (ax (aV (eI (aE V1)) U3)
 (ax (zz (bx (aK Cr (dD (cV K) (aE V3)) (tC (.int 0)))) (ax (aV (Jg K "list" Jm V3) U4)
 (fJ (Jx K (Dx K V0 (dZ (ba V4 (tC (.ref a_STILL)))) (dZ (bF)))) U5 (cG (tB (qV K V5 V2)) (ax (sI V2 V5 (tC (.bl true)))
 (eE (uf K "list" fM V3 (aE V5)))) (bo)))))
 (aZ V2)))
def tP:List Str:=["goals","room","led","waiting","here","goal"]
def nj(K:Za):TS :=
 ax (fJ (lh K (aE V0)) (ic K 2 (be U2 (be U3 (g_)))) (cG (tB (Dw K V3 (Ba K V1 V3))) (aZ V2) (bo)))
 (aZ (tC .non))
def ou:List Str:=["rooms","led","number","room"]
def y1:List Str:=["part","number"]
def vV(K:Za)(sp_need_none:Sp)(sp_first_wrong_door:Sp)(sp_door_signs:Sp)(sp_first_wrong_name:Sp):TS :=
 ax (eE (aR sp_need_none (ba (tC (.str "asks")) (aR sp_first_wrong_name (gH V0 (tC (.int 4)) (eI (bF)))))))
 (ax (eE (aR sp_need_none (ba (tC (.str "says")) (aR sp_first_wrong_name (gH V1 (tC (.int 4)) V0)))))
 (ax (eE (aR sp_need_none (ba (tC (.str "rooms")) (aR sp_first_wrong_name (gH V2 (tC (.int 150)) (eI (bF)))))))
 (eE (aR sp_need_none (az (tC (.str "doors")) (aE (aR sp_first_wrong_door (gH V3 V2 (aR sp_door_signs (ba V0 V1))))))))))
def xz:List Str:=["asks","says","rooms","doors"]
def o6(K:Za):TS :=
 ax (aV (v9) U2)
 (ax (fJ (dq K V0) U3 (sI V2 V3 (eI (bF))))
 (ax (fJ (dq K V1) U4 (eE (uf K "list" fM (Ba K V2 (aK (Cq K) V4 (tC (.int 0)))) (aE V4))))
 (aZ V2)))
def pU:List Str:=["rooms","doors","leaving","room","door"]
def o5(K:Za):TS :=
 aZ (dD (Cu K) (az (dQ 1 [] (dq K V0) U0 (ju) (aK qJ (aK (Cq K) (aK (Cq K) V0 (tC (.int 1))) (tC (.int 0))) (tC (.str "ask")))) bF))
def pT:List Str:=["doors"]
def iA(K:Za)(sp_need_none:Sp)(sp_first_led_round:Sp)(sp_led_by_still:Sp)(sp_goals_by_start_and_sign:Sp)(sp_as_keys:Sp)(sp_has_asks_alone:Sp)(sp_doors_by_start:Sp)(sp_need_parts:Sp):TS :=
 ax (eE (aR sp_need_parts (az V1 (gH V2 V3 V4))))
 (ax (wj K V0 (dD (fL K) (aE V1)) "own_asks")
 (ax (wj K V0 (dD (fL K) (aE V2)) "own_says")
 (ax (wj K V0 (dD (fL K) (aE V3)) "own_rooms")
 (ax (wj K V0 (dD (fL K) (aE V4)) "own_doors")
 (ax (wj K V0 (aR sp_doors_by_start (ba V3 V4)) "leaving")
 (ax (wj K V0 (aR sp_as_keys (az (dQ 1 [0] (dq K V3) U0 (tB (aR sp_has_asks_alone (aE (Ba K (xZ K V1 "leaving") V0)))) V0) bF)) "quiet")
 (ax (wj K V0 (aR sp_goals_by_start_and_sign (aE V4)) "sign_goals")
 (ax (wj K V0 (dD (F_ K) (az (dQ 1 [0] (dq K V3) U0 (ju) (dZ (ba V0 (aR sp_led_by_still (az (xZ K V1 "sign_goals") (aE V0)))))) bF)) "still_led")
 (eE (aR sp_need_none (ba (tC (.str "still")) (aR sp_first_led_round (az V3 (aE (xZ K V0 "still_led")))))))))))))))
def iO:List Str:=["self","asks","says","rooms","doors"]
def dO(p:Addr)(H H':Hp):Prop:=∀b o,H b=some o->b≠p->H' b=some o
theorem dO.refl(p:Addr)(H:Hp):dO p H H:=fun _ _ h _=>h
theorem dO.trans{p:Addr}{H H1 H2:Hp}(a:dO p H H1)(b:dO p H1 H2):dO p H H2:=fun c o h n=>b c o (a c o h n) n
theorem ae.exB{p:Addr}{H H':Hp}(a:ae H H'):dO p H H':=fun b o h _=>a b o h
theorem dO.upd(p:Addr)(H:Hp)(o:HO):dO p H (upd H p o):=fun b u h n=>by rw[ai n];exact h
theorem ae.new{H:Hp}{a:Addr}{o:HO}(h:H a=none):ae H (upd H a o):=fun b u e=>by rw[ai (ah e h)];exact e
theorem dO.free{p:Addr}{H H':Hp}(e:dO p H H'){u:HO}(hp:H' p=some u){l:Addr}(h:H' l=none):H l=none:=by
 cases q:H l with
 |none=>rfl
 |some o =>
  by_cases z:l=p
  ·subst z;rw[hp]at h;cases h
  ·rw[e l o q z]at h;cases h
theorem kp{H:Hp}{a b:Addr}{o x:HO}(h:H b=some o)(n:H a=none):upd H a x b=some o:=by rw[ai (ah h n)];exact h
structure BT(H:Hp)(p c:Addr)(at_ rest:Int)(ns:List Int):Prop where
 pen:H p=some (.lst [.ref c,.int at_,.int rest])
 cells:H c=some (.lst (ns.map V.int))
 at0:0<=at_
 rest0:0<=rest
theorem BT.ne{H:Hp}{p c:Addr}{a r:Int}{ns:List Int}(h:BT H p c a r ns):c≠p:=by
 intro e;have h1:=h.pen;have h2:=h.cells;rw[e,h1]at h2;injection h2 with h2;injection h2 with h2;cases ns with
 |nil=>cases h2
 |cons n ns=>injection h2 with h2;cases h2
def gU(H:Hp)(p c:Addr):Prop:=∃a r ns,BT H p c a r ns
theorem gU.ex{H H':Hp}{p c:Addr}(h:gU H p c)(e:ae H H'):gU H' p c:=by
 obtain⟨a,r,ns,h1,h2,h3,h4⟩:=h;exact⟨a,r,ns,e _ _ h1,e _ _ h2,h3,h4⟩
theorem gU.pen{H:Hp}{p c:Addr}(h:gU H p c):∃o,H p=some o:=by
 obtain⟨a,r,ns,h1,_⟩:=h;exact⟨_,h1⟩
theorem gU.cell{H:Hp}{p c:Addr}(h:gU H p c):∃o,H c=some o:=by
 obtain⟨a,r,ns,_,h1,_⟩:=h;exact⟨_,h1⟩
theorem gU.upd{H:Hp}{p c l:Addr}{o:HO}(h:gU H p c)(h1:p≠l)(h2:c≠l):gU (upd H l o) p c:=by
 obtain⟨a,r,ns,g1,g2,g3,g4⟩:=h;exact⟨a,r,ns,by rw[ai h1];exact g1,by rw[ai h2];exact g2,g3,g4⟩
theorem gU.nep{H:Hp}{p c l:Addr}(h:gU H p c)(hl:H l=none):p≠l:=let⟨_,e⟩:=h.pen;ah e hl
theorem gU.nec{H:Hp}{p c l:Addr}(h:gU H p c)(hl:H l=none):c≠l:=let⟨_,e⟩:=h.cell;ah e hl
theorem dO.new{p:Addr}{H:Hp}{a:Addr}{o:HO}(h:H a=none):dO p H (L2.upd H a o):=fun b u e _=>by rw[ai (ah e h)];exact e
inductive lI (vs:List V)(H:Hp)(Q:VK)(E:XK):Prop
 |mk (c a:Int):(vs=[.int c,.int a])->(0<=a)->(∀r:Int,0<=r->Q (.int r) H)->lI  vs H Q E
theorem om{i j:Int}(h1:-(2 ^ 64)<j)(h2:j<2 ^ 64):Fx i j:=.inr ⟨h1,h2⟩
theorem Cm{K:Za}{vs:List V}{H:Hp}{Q:VK}{E:XK}(h:lI vs H Q E):vX K (bT Q) (start xA vs) H:=by
 obtain⟨c,a,rfl,ha,k⟩:=h;refine⟨_,rfl,_,_,rfl,rfl,⟨by decide,by decide,by decide⟩,_,_,rfl,rfl,_,rfl,?_⟩;refine eA (fun h=>?_) (fun _=>?_)
 ·refine⟨_,rfl,k _ ?_⟩;have:=of_decide_eq_true h;have e:((10:Int) ^ (18:Int).toNat)=1000000000000000000:=by decide
  omega
 ·have one:∀z:Int,0<=z % 2147483629/\z % 2147483629<2147483629:=fun z=>⟨oC _ (by decide),oB _ (by decide)⟩;have two:∀z:Int,0<=z % 2147483587/\z % 2147483587<2147483587:=fun z=>⟨oC _ (by decide),oB _ (by decide)⟩;have three:∀z:Int,0<=z % 2147483563/\z % 2147483563<2147483563:=fun z=>⟨oC _ (by decide),oB _ (by decide)⟩;refine⟨_,rfl,_,_,rfl,rfl,(by show(0:Int)<1000000007;decide),_,_,rfl,rfl,om (by decide) (by decide),_,rfl,_,_,rfl,rfl,om (by decide) (by decide),_,_,rfl,rfl,_,_,rfl,rfl,_,_,rfl,rfl,(by show(0:Int)<2147483629;decide),?_⟩;generalize hz1:(c % 1000000007 * 69069+a * 40503+977)=z1;obtain⟨o1,o2⟩:=one z1;generalize z1 % 2147483629=o at o1 o2 ⊢;refine⟨_,rfl,_,rfl,_,_,rfl,rfl,om (by omega) (by omega),_,rfl,_,_,rfl,rfl,om (by decide) (by decide),_,_,rfl,rfl,_,rfl,_,_,rfl,rfl,(by show(0:Int)<65537;decide),_,_,rfl,rfl,_,_,rfl,rfl,(by show(0:Int)<2147483587;decide),?_⟩;generalize hz2:(o * o+a * 7919+c % 65537)=z2;obtain⟨p1,p2⟩:=two z2;generalize z2 % 2147483587=q at p1 p2 ⊢;refine⟨_,rfl,_,rfl,_,_,rfl,rfl,om (by omega) (by omega),_,rfl,_,_,rfl,rfl,om (by decide) (by decide),_,_,rfl,rfl,_,_,rfl,rfl,_,_,rfl,rfl,(by show(0:Int)<2147483563;decide),?_⟩;generalize hz3:(q * q+o * 31+5)=z3;obtain⟨r1,r2⟩:=three z3;generalize z3 % 2147483563=r at r1 r2 ⊢;refine⟨_,rfl,_,_,rfl,rfl,om (by decide) (by decide),_,rfl,_,_,rfl,rfl,_,_,rfl,rfl,om (by decide) (by decide),_,rfl,_,_,rfl,rfl,k _ ?_⟩;omega
def wd:Sp:=fun vs H Q _=>∃p c,vs=[.ref p]/\gU H p c/\∀H',gU H' p c->dO p H H'->Q (.ref p) H'
theorem FZ{K:Za}{vs:List V}{H:Hp}{Q:VK}{E:XK}(h:wd vs H Q E):zw K (bT Q) (start AF vs) H:=by
 obtain⟨p,c,rfl,⟨a,r,ns,h⟩,k⟩:=h;refine⟨_,rfl,p,_,_,_,rfl,rfl,h.pen,rfl,_,rfl,k _ ⟨a,0,ns,aa,?_,h.at0,Int.le_refl 0⟩ (dO.upd _ _ _)⟩;rw[ai h.ne];exact h.cells
theorem BQ{ns:List Int}{a:Int}(h0:0<=a)(h1:a<ns.length):∃z,xJ (ns.map V.int) a=some (.int z):=by
 obtain⟨n,rfl⟩:=je h0;have hn:n<ns.length:=by omega
 exact⟨ns[n],cf (by simp[hn])⟩
inductive eX (vs:List V)(H:Hp)(Q:VK)(E:XK):Prop
 |mk (p c:Addr) (m:Int):(vs=[.ref p,.int m])->(gU H p c)->(0<m)->(m<1073741824)->(∀(r:Int) (H':Hp),0<=r->r<m->gU H' p c->dO p H H'->Q (.int r) H')->eX  vs H Q E
theorem dC{H:Hp}{Q:VK}{E:XK}{p c:Addr}{m:Int}(hp:gU H p c)(m0:0<m)(m1:m<1073741824)(k:∀(r:Int) (H':Hp),0<=r->r<m->gU H' p c->dO p H H'->Q (.int r) H'):eX [.ref p,.int m] H Q E:=by
 exact⟨p,c,m,rfl,hp,m0,m1,k⟩
theorem FV{K:Za}{vs:List V}{H:Hp}{Q:VK}{E:XK}(h:eX vs H Q E):zu K lI (bT Q) (start AC vs) H:=by
 obtain⟨p,c,m,rfl,⟨a,r,ns,h⟩,hm,hm2,k⟩:=h;have fin:∀(H':Hp) (a' r':Int) (x y:Option V),BT H' p c a' r' ns->dO p H H' ->
   (ax (aV (aK i6 (aK (c6 K) V0 (tC (.int 2))) V1) U4) (ax (aV (aK DY (aK (c6 K) V0 (tC (.int 2))) V1) (Aq V0 (tC (.int 2)) sM)) (aZ V4)))
    (bT Q) [some (.ref p),some (.int m),x,y,none] H':=by
  intro H' a' r' x y h' ex;refine⟨_,rfl,p,_,2,_,rfl,rfl,aA.of h'.pen,rfl,_,rfl,_,_,rfl,rfl,hm,?_⟩;refine⟨_,rfl,p,_,2,_,rfl,rfl,aA.of h'.pen,rfl,_,rfl,_,_,rfl,rfl,⟨hm,hm2⟩,_,rfl,p,_,_,_,rfl,rfl,h'.pen,rfl,?_⟩;refine⟨_,rfl,k _ _ (oC _ (by omega)) (oB _ hm) ⟨a',_,ns,aa,?_,h'.at0,Int.ediv_nonneg h'.rest0 (by omega)⟩ (ex.trans (dO.upd _ _ _))⟩;rw[ai h'.ne];exact h'.cells
 refine⟨_,rfl,p,_,2,_,rfl,rfl,aA.of h.pen,rfl,_,rfl,_,_,rfl,rfl,_,rfl,?_⟩;refine eA (fun h1=>?_) (fun h1=>?_)
 ·-- at=pen[1];cell=0;if at<len(pen[0])
  refine⟨_,rfl,p,_,1,_,rfl,rfl,aA.of h.pen,rfl,?_⟩;have la:(V.int ((ns.map V.int).length:Nat))=V.int (ns.length:Nat):=by rw[am]
  refine⟨_,rfl,_,rfl,p,_,0,_,rfl,rfl,aA.of h.pen,rfl,.inl ⟨c,_,rfl,.inl (aA.of h.cells),_,_,rfl,la,_,rfl,?_⟩⟩;refine eA (fun h2=>?_) (fun h2=>?_)
  ·obtain⟨z,hz⟩:=BQ (ns:=ns) h.at0 (of_decide_eq_true h2);refine⟨_,rfl,p,_,0,_,rfl,rfl,aA.of h.pen,rfl,_,rfl,c,_,_,_,rfl,rfl,aA.of h.cells,hz,?_⟩;refine⟨_,rfl,_,_,rfl,rfl,_,rfl,p,_,_,_,rfl,rfl,h.pen,rfl,?_⟩;refine⟨_,rfl,_,rfl,_,_,rfl,h.at0,fun q hq=>⟨_,rfl,p,_,_,_,rfl,rfl,aa,rfl,?_⟩⟩;rw[qU];refine fin _ (a+1) q _ _ ⟨aa,by rw[ai h.ne];exact h.cells,by have:=h.at0;omega,hq⟩ (dO.upd _ _ _)
  ·refine⟨_,rfl,p,_,0,_,rfl,rfl,aA.of h.pen,rfl,.inl ⟨c,_,rfl,.inl (aA.of h.cells),_,_,la,rfl,_,rfl,?_⟩⟩;refine eA (fun h3=>?_) (fun h3=>?_)
   ·have hl:(0:Int)<ns.length:=of_decide_eq_true h3;obtain⟨z,hz⟩:=BQ (ns:=ns) (a:=(a * 5+3) % (ns.length:Int)) (oC _ (by omega)) (oB _ hl);refine⟨_,rfl,p,_,0,_,rfl,rfl,aA.of h.pen,rfl,_,rfl,_,_,rfl,rfl,om (by decide) (by decide),_,_,rfl,rfl,_,rfl,p,_,0,_,rfl,rfl,aA.of h.pen,rfl,.inl ⟨c,_,rfl,.inl (aA.of h.cells),_,_,rfl,la,hl,c,_,_,_,rfl,rfl,aA.of h.cells,hz,?_⟩⟩;refine⟨_,_,rfl,rfl,⟨by decide,by decide,by decide⟩,_,rfl,_,_,rfl,rfl,_,_,rfl,rfl,?_,?_⟩
    ·have e:((10:Int) ^ (17:Int).toNat)=100000000000000000:=by decide
     have:=h.at0;show(0:Int)<10 ^ (17:Int).toNat+a;omega
    refine⟨_,rfl,_,_,rfl,rfl,_,rfl,p,_,_,_,rfl,rfl,h.pen,rfl,?_⟩;refine⟨_,rfl,_,rfl,_,_,rfl,h.at0,fun q hq=>⟨_,rfl,p,_,_,_,rfl,rfl,aa,rfl,?_⟩⟩;rw[qU];refine fin _ (a+1) q _ _ ⟨aa,by rw[ai h.ne];exact h.cells,by have:=h.at0;omega,hq⟩ (dO.upd _ _ _)
   ·refine⟨_,rfl,_,_,rfl,rfl,_,rfl,p,_,_,_,rfl,rfl,h.pen,rfl,?_⟩;refine⟨_,rfl,_,rfl,_,_,rfl,h.at0,fun q hq=>⟨_,rfl,p,_,_,_,rfl,rfl,aa,rfl,?_⟩⟩;rw[qU];refine fin _ (a+1) q _ _ ⟨aa,by rw[ai h.ne];exact h.cells,by have:=h.at0;omega,hq⟩ (dO.upd _ _ _)
 ·exact fin H a r _ _ h (dO.refl _ _)
inductive qY(K:Za)(vs:List V)(H:Hp)(Q:VK)(E:XK):Prop
 |mk (a:Addr) (ns:List Int):(vs=[.ref a])->(aA K H a (ns.map V.int))->(ns.length<=63)->(∀(p c:Addr) (H':Hp),H p=none->gU H' p c->ae H H'->Q (.ref p) H')->qY K vs H Q E
theorem vc(ns:List Int)(lo hi:Option Int):∃ms:List Int,df (ns.map V.int) lo hi=ms.map V.int/\ms.length=(df (ns.map V.int) lo hi).length:=by
 refine⟨(ns.drop (HT.sIx (ns.map V.int).length 0 lo)).take (HT.sIx (ns.map V.int).length (ns.map V.int).length hi-HT.sIx (ns.map V.int).length 0 lo),?_,?_⟩
 ·unfold df;rw[rO,vq]
 ·unfold df;rw[aP,aP,fm,fm,am]
theorem FX{K:Za}{vs:List V}{H:Hp}{Q:VK}{E:XK}(h:qY K vs H Q E):zv K (bT Q) (start AD vs) H:=by
 obtain⟨a,ns,rfl,hs,hn,k⟩:=h;obtain⟨c0,e0,l0⟩:=vc ns none (some 12);obtain⟨c1,e1,l1⟩:=vc ns (some 12) (some 63);have hlen:c1≠[]->c0.length=12:=by
  intro hne;have hc1:0<c1.length:=by cases c1 with|nil=>exact absurd rfl hne|cons _ _=>simp
  rw[l1]at hc1;rw[l0];unfold df at hc1 ⊢;rw[aP,fm,am]at hc1;rw[aP,fm,am];have s1:HT.sIx ns.length 0 (some 12)=min 12 ns.length:=HT.sIx_nat _ _ 12;have s2:HT.sIx ns.length ns.length (some 12)=min 12 ns.length:=HT.sIx_nat _ _ 12;rw[HT.sIx_none,s2];rw[s1]at hc1;omega
 refine⟨_,rfl,_,rfl,a,_,rfl,hs,fun q hq=>.inl ⟨q,_,rfl,.inl (aA.of aa),fun c hc=>?_⟩⟩;rw[e0]at hc ⊢;have hcH:H c=none:=by
  have:c≠q:=fun z=>by subst z;rw[aa]at hc;cases hc
  rw[ai this]at hc;exact hc
 have hS:ae H (upd (upd H q (.lst (c0.map V.int))) c (.lst (c0.map V.int))):=(ae.new hq).trans (ae.new hc);refine⟨_,rfl,_,rfl,_,rfl,a,_,rfl,hS.seq hs,fun r hr=>⟨r,rfl,⟨_,aA.of aa⟩,?_⟩⟩;rw[e1];have hcr:c≠r:=ah aa hr;refine eW (xs:=c1.map V.int) (fun i σ H'=>∃(ms:List Int) (x y:Option V),σ=[some (.ref a),some (.ref c),x,y]/\H' c=some (.lst (ms.map V.int))/\ms.length=c0.length/\H' r=some (.lst (c1.map V.int))/\ae H H')
  ⟨c0,none,none,rfl,kp aa hr,rfl,aa,hS.trans (ae.new hr)⟩ (fun i σ H' _ ⟨ms,x,y,_,_,_,h,_⟩=>aA.of h) ?_ ?_
 ·rintro i x σ H' t hi ⟨ms,u,v,rfl,hcell,hml,hr',hS'⟩ ht;have hi':i<c1.length:=by
   have:=(db.mp hi).1;rwa[am]at this
  have h12:=hlen (fun z=>by rw[z]at hi';simp at hi');obtain⟨z,rfl⟩:∃z,x=V.int z:=by
   rw[cb,fh hi']at hi;exact⟨_,(dX hi).symm⟩
  have hcell1:upd H' t (.tup [.int i,.int z]) c=some (.lst (ms.map V.int)):=kp hcell ht;have hidx:(i:Int) % 12=((i % 12:Nat):Int):=by omega
  have hlt:i % 12<ms.length:=by omega
  refine⟨t,_,rfl,b_.of aa,rfl,_,_,rfl,_,_,rfl,rfl,?_⟩;have hat:xJ (ms.map V.int) ((i:Int) % 12)=some (.int ms[i % 12]):=by rw[hidx];exact cf (by simp[hlt])
  refine⟨_,rfl,_,rfl,_,_,rfl,rfl,(by show(0:Int)<12;decide),c,_,_,_,rfl,rfl,aA.of hcell1,hat,_,rfl,_,_,rfl,rfl,_,rfl,_,rfl,_,_,rfl,rfl,(by show(0:Int)<12;decide),c,_,_,i % 12,rfl,rfl,hcell1,?_,?_⟩
  ·rw[hidx];unfold Fy;rw[if_pos (by omega),if_pos (by rw[am];omega)];rw[oM]
  ·refine⟨ms.set (i % 12) (ms[i % 12]+z),_,_,rfl,?_,by rw[vO];exact hml,?_,?_⟩
   ·rw[aa,List.map_set]
   ·rw[ai hcr.symm];exact kp hr' ht
   ·intro b o e;rw[ai (ah e hcH)];exact kp (hS' b o e) ht
 ·rintro σ H' ⟨ms,x,y,rfl,hcell,hml,hr',hS'⟩;refine⟨_,rfl,(by show 3<=aj;decide),fun p hp=>k p c _ (hS'.free hp) ⟨0,0,ms,aa,kp hcell hp,Int.le_refl _,Int.le_refl _⟩ (hS'.trans (ae.new hp))⟩
def pF(c:Nat):Prop:=97<=c/\c<=122
structure j4(w:Str):Prop where
 lo:1<=w.length
 hi:w.length<=8
 al:∀c∈w.cps.toList,pF c
theorem xx:∀n:Nat,n<26->(("abcdefghijklmnopqrstuvwxyz":Str).cps.toList)[n]?=some (97+n):=by decide +kernel
theorem BR:("abcdefghijklmnopqrstuvwxyz":Str).length<=aj:=by decide +kernel
theorem Fp{r:Int}(h0:0<=r)(h1:r<26):xJ (("abcdefghijklmnopqrstuvwxyz":Str).cps.toList) r=some (97+r.toNat):=by
 obtain⟨n,rfl⟩:=je h0;rw[oM];exact cf (xx n (by omega))
theorem ur(cs:List Nat):∀acc:Array Nat,((cs.map fun c=>(⟨#[c]⟩:Str)).foldl (fun acc p=>acc++("":Str).cps++p.cps) acc).toList=acc.toList++cs:=by
 have e:("":Str).cps=#[]:=by decide +kernel
 induction cs with
 |nil=>intro acc;simp
 |cons c cs ih =>
  intro acc;rw[bf,oA,ih,e];simp
theorem Aj(cs:List Nat):(mo "" (cs.map fun c=>(⟨#[c]⟩:Str))).cps.toList=cs:=by
 unfold mo cO.Str.glued;cases cs with
 |nil=>rfl
 |cons c cs =>
  rw[bf];show((cs.map fun c=>(⟨#[c]⟩:Str)).foldl (fun acc p=>acc++("":Str).cps++p.cps) #[c]).toList=_;rw[ur]
  rfl
theorem lH{a b:Str}(h:a.cps.toList=b.cps.toList):a=b:=by
 cases a with|mk x=>cases b with|mk y=>exact congrArg Str.mk (Array.toList_inj.mp h)
theorem br(a:Str):a.length=a.cps.toList.length:=by simp[Str.length]
theorem cU(a b:Str):(a++b).cps.toList=a.cps.toList++b.cps.toList:=by
 show(a.cps++b.cps).toList=_;simp
theorem pO(z:Str)(m:Nat):(mP z none (some (m:Int))).cps.toList=z.cps.toList.take m:=by
 unfold mP;rw[HT.sIx_none,HT.sIx_nat,mq,vA,br];show List.take _ _=_;rw[List.take_eq_take_iff];omega
theorem ln(z:Str)(m:Nat):(mP z (some (m:Int)) none).cps.toList=z.cps.toList.drop m:=by
 unfold mP;rw[HT.sIx_none,HT.sIx_nat,br];show List.take _ _=_;rw[rN (by rw[fm];omega)];by_cases h:m<=z.cps.toList.length
 ·rw[oz h]
 ·rw[vp (by omega),kA,oE (by omega)]
def eQ(way size k:Nat):Nat:=(size+k * (way % 2)) % 8
def zb(way m:Nat):Nat:=if way=0 then 0 else if way=1 then m else m / 2
def me(b:List Nat)(way turn size k:Nat):List Nat :=
 (b.take (eQ way size k)).take (zb way (eQ way size k))++[97+(turn+3 * k) % 26]++(b.take (eQ way size k)).drop (zb way (eQ way size k))
def xS(b:List Nat)(way turn size k:Nat):Str:=⟨(me b way turn size k).toArray⟩
theorem oS{b:List Nat}(hb:b.length=7)(way turn size k:Nat):(me b way turn size k).length=eQ way size k+1:=by
 have h8:eQ way size k<8:=rM _ (by decide);unfold me;rw[bp,bp,aP,fm,aP,hb];have:zb way (eQ way size k)<=eQ way size k:=by unfold zb;split;omega;split;omega;omega
 simp;omega
theorem FI{b:List Nat}(hb:b.length=7)(hl:∀c∈b,pF c)(way turn size k:Nat):j4 (xS b way turn size k):=by
 have h8:eQ way size k<8:=rM _ (by decide);have hlen:=oS hb way turn size k;have e:(xS b way turn size k).cps.toList=me b way turn size k:=by simp[xS]
 refine⟨?_,?_,?_⟩
 ·rw[br,e];omega
 ·rw[br,e];omega
 ·rw[e];intro c hc;unfold me at hc;rcases bJ.mp hc with hc|hc
  ·rcases bJ.mp hc with hc|hc
   ·exact hl c (gW (gW hc))
   ·have:c=97+(turn+3 * k) % 26:=by simpa using hc
    subst this;have:(turn+3 * k) % 26<26:=rM _ (by decide);exact⟨by omega,by omega⟩
  ·exact hl c (gW (List.mem_of_mem_drop hc))
theorem Di{b:List Nat}(hb:b.length=7){way turn size:Nat}(hw:way<3){j k:Nat}(hj:j<26)(hk:k<26)(h:xS b way turn size j=xS b way turn size k):j=k:=by
 have h8:∀i,eQ way size i<8:=fun i=>rM _ (by decide);have e:me b way turn size j=me b way turn size k:=by
  have:=congrArg (fun s=>Str.cps s |>.toList) h;simpa[xS]using this
 have el:eQ way size j=eQ way size k:=by
  have:=congrArg List.length e;rw[oS hb,oS hb]at this;omega
 have key:97+(turn+3 * j) % 26=97+(turn+3 * k) % 26:=by
  have hat:∀i,zb way (eQ way size i)<=eQ way size i:=fun i=>by unfold zb;split;omega;split;omega;omega
  have get:∀i,(me b way turn size i)[zb way (eQ way size i)]?=some (97+(turn+3 * i) % 26):=by
   intro i;unfold me;have hl:((b.take (eQ way size i)).take (zb way (eQ way size i))).length=zb way (eQ way size i):=by
    rw[aP,aP,hb];have:=h8 i;have:=hat i;omega
   rw[dA,oO (by omega),hl,Nat.sub_self]
   rfl
  have g1:=get j;have g2:=get k;rw[e,el]at g1;rw[g1]at g2;exact dX g2
 omega
def eJ(ws:Zb):Prop:=ws.Nodup/\∀w∈ws,j4 w
def jN(b:List Nat)(way turn size n:Nat):List Str:=(ng n).map (xS b way turn size)
theorem zi{b:List Nat}(hb:b.length=7)(hl:∀c∈b,pF c){way turn size n:Nat}(hw:way<3)(hn:n<=26):eJ (jN b way turn size n):=by
 refine⟨?_,fun w hm=>?_⟩
 ·unfold jN;rw[List.nodup_iff_pairwise_ne,List.pairwise_map];refine(List.nodup_range (n:=n)).imp_of_mem ?_;intro j k hj hk hne h;exact hne (Di hb hw (by have:=List.mem_range.mp hj;omega) (by have:=List.mem_range.mp hk;omega) h)
 ·obtain⟨k,_,rfl⟩:=aO.mp hm;exact FI hb hl _ _ _ _
inductive nG (vs:List V)(H:Hp)(Q:VK)(E:XK):Prop
 |mk (p c:Addr) (n:Nat):(vs=[.ref p,.int n])->(gU H p c)->(n<=26)->(∀(l:Addr) (ws:Zb) (H':Hp),eJ ws->ws.length=n->H l=none->H' l=some (.lst (ws.map V.str))->gU H' p c->dO p H H'->Q (.ref l) H')->nG  vs H Q E
theorem DN{K:Za}{vs:List V}{H:Hp}{Q:VK}{E:XK}(h:nG vs H Q E):xX K eX (bT Q) (start y4 vs) H:=by
 obtain⟨p,c,n,rfl,hp,hn,k⟩:=h;refine⟨rfl,7,rfl,by decide,by decide,fun l hl=>?_⟩;refine Av (lo:=0) (n:=Int.toNat 7) (fun i vs H'=>∃cs:List Nat,vs=cs.map (fun c=>V.str ⟨#[c]⟩)/\cs.length=i/\(∀c∈cs,pF c)/\gU H' p c/\dO p H H'/\H' l=some (.lst vs))
  ⟨[],rfl,rfl,(fun _ h=>nomatch h),hp.ex (ae.new hl),dO.new hl,aa⟩ (fun i vs H' _ ⟨_,_,_,_,_,_,h⟩=>h) ?_ ?_
 rotate_left
 ·rintro i vs H' hi ⟨cs,rfl,hlen,hlet,hp',hex,hl'⟩;have hlp:=hp.nep hl;have hlc:=hp.nec hl;refine gN (t7 ?_);refine⟨_,rfl,_,rfl,dC hp' (by decide) (by decide) fun r H2 h0 h1 hp2 hex2=>⟨_,r,_,rfl,rfl,BR,Fp h0 h1,?_⟩⟩;have hl2:=hex2 l _ hl' hlp.symm;refine⟨hl2,by rw[am,hlen];exact bC (by omega),u3 hi ⟨cs++[97+r.toNat],by rw[aQ];rfl,by rw[bp,hlen];rfl,?_,hp2.upd hlp hlc,?_,aa⟩⟩
  ·intro x hc;rcases bJ.mp hc with hc|hc
   ·exact hlet x hc
   ·have:x=97+r.toNat:=by simpa using hc
    subst this;exact⟨by omega,by omega⟩
  ·intro b o' e nb;rw[ai (ah e hl)];exact hex2 b o' (hex b o' e nb) nb
 ·rintro vs H1 ⟨cs,rfl,hlen,hlet,hp1,hex1,hl1⟩;refine⟨"",l,cs.map fun c=>(⟨#[c]⟩:Str),rfl,rfl,aA.of (by rw[hl1,dR];rfl),?_,?_⟩
  ·have e0:("":Str).length=0:=by decide +kernel
   rw[e0,Nat.mul_zero,dR];have:∀cs:List Nat,(cs.map ((fun x=>Str.length x) ∘ fun c=>(⟨#[c]⟩:Str))).sum=cs.length:=by
    intro cs
    induction cs with
    |nil=>rfl
    |cons c cs ih=>rw[bf,oy,ih,cw];show 1+_=_;omega
   rw[this,hlen];decide
  refine⟨_,rfl,dC hp1 (by decide) (by decide) fun way H2 w0 w1 hp2 hex2=>?_⟩;refine⟨_,rfl,dC hp2 (by decide) (by decide) fun turn H3 t0 t1 hp3 hex3=>?_⟩;refine⟨_,rfl,dC hp3 (by decide) (by decide) fun size H4 s0 s1 hp4 hex4=>?_⟩;have ex4:dO p H H4:=((hex1.trans hex2).trans hex3).trans hex4;obtain⟨wy,rfl⟩:=je w0;obtain⟨tn,rfl⟩:=je t0;obtain⟨sz,rfl⟩:=je s0;have hb:=Aj cs;generalize mo "" (cs.map fun c=>(⟨#[c]⟩:Str))=base at hb ⊢;refine⟨(by show 0<=aj;decide),fun f hf=>?_⟩;obtain⟨op,hop⟩:=hp4.pen;have hfH:H f=none:=ex4.free hop hf;have hfp:=hp.nep hfH;have hfc:=hp.nec hfH;refine⟨_,rfl,n,rfl,by omega,by omega,lS (lo:=0) (n:=((n:Int)).toNat) (fun i σ H'=>∃(a b c' d:Option V),σ=[some (.ref p),some (.int n),some (.str "abcdefghijklmnopqrstuvwxyz"),some (.str base),some (.int wy),some (.int tn),some (.int sz),some (.ref f),a,b,c',d] /\
   gU H' p c/\dO p H H'/\H' f=some (.lst ((jN cs wy tn sz i).map V.str)))
   ⟨_,_,_,_,rfl,hp4.upd hfp hfc,ex4.trans (dO.new hf),aa⟩ ?_ ?_⟩
  ·rintro i σ H' hi ⟨a,b,c',d,rfl,hp',hex',hf'⟩;have hi':i<n:=by omega
   have hwy:wy<3:=by omega
   have e26:((tn:Int)+3 * (0+(i:Int))) % 26=(((tn+3 * i) % 26:Nat):Int):=by omega
   refine⟨_,rfl,_,rfl,_,rfl,_,_,rfl,rfl,.inl ⟨by decide,by decide⟩,_,_,rfl,rfl,_,_,rfl,rfl,(by show(0:Int)<26;decide),_,_,_,rfl,rfl,BR,Fp (oC _ (by decide)) (oB _ (by decide)),?_⟩;have blen:base.length<=aj:=by rw[br,hb,hlen];decide
   have e8:((sz:Int)+(0+(i:Int)) * ((wy:Int) % 2)) % 8=((eQ wy sz i:Nat):Int):=by
    unfold eQ;have:wy=0∨wy=1∨wy=2:=by omega
    rcases this with rfl|rfl|rfl<;>simp<;>omega
   refine⟨_,rfl,_,rfl,_,rfl,_,rfl,_,_,rfl,rfl,(by show(0:Int)<2;decide),_,_,rfl,rfl,.inr ⟨by omega,by omega⟩,_,_,rfl,rfl,_,_,rfl,rfl,(by show(0:Int)<8;decide),_,rfl,base,rfl,blen,?_⟩;rw[e8];have hpart:=pO base (eQ wy sz i);rw[hb]at hpart;generalize mP base none (some ((eQ wy sz i:Nat):Int))=part at hpart ⊢;have h8:eQ wy sz i<8:=rM _ (by decide);have plen:part.length=eQ wy sz i:=by rw[br,hpart,aP,hlen];omega
   have pz:part.length<=aj:=by rw[plen];exact ei (bC (by omega))
   refine⟨_,rfl,.inr ⟨part,rfl,pz,_,rfl,.inr ⟨part,rfl,pz,_,_,rfl,rfl,⟨by decide,by decide⟩,(by show 3<=aj;decide),fun q hq=>?_⟩⟩⟩;have hqH:H q=none:=by
    obtain⟨op',hop'⟩:=hp'.pen;exact hex'.free hop' hq
   have hat:xJ [V.int 0,V.int (part.length:Nat),V.int ((part.length:Int) / 2)] (wy:Int)=some (.int (zb wy (eQ wy sz i):Nat)):=by
    rw[plen];have:wy=0∨wy=1∨wy=2:=by omega
    rcases this with rfl|rfl|rfl
    ·rfl
    ·rfl
    ·show some (V.int (((eQ 2 sz i:Nat):Int) / 2))=some (V.int ((zb 2 (eQ 2 sz i):Nat):Int));have:zb 2 (eQ 2 sz i)=eQ 2 sz i / 2:=rfl;rw[this];congr 2
   refine⟨_,rfl,q,_,_,_,rfl,rfl,aA.of aa,hat,?_⟩;have hf2:upd H' q (.lst [V.int 0,V.int (part.length:Nat),V.int ((part.length:Int) / 2)]) f=some (.lst ((jN cs wy tn sz i).map V.str)):=kp hf' hq;have c1:=pO part (zb wy (eQ wy sz i));have c2:=ln part (zb wy (eQ wy sz i));have l1:(mP part none (some ((zb wy (eQ wy sz i):Nat):Int))).length<=8:=by rw[br,c1,aP,hpart,aP,hlen];omega
   have l2:(mP part (some ((zb wy (eQ wy sz i):Nat):Int)) none).length<=8:=by rw[br,c2,fm,hpart,aP,hlen];omega
   refine⟨_,rfl,.inl ⟨rfl,_,aA.of hf2⟩,_,rfl,_,rfl,_,rfl,part,rfl,pz,_,rfl,_,_,rfl,rfl,?_,_,rfl,_,rfl,_,rfl,part,rfl,pz,_,_,rfl,rfl,?_,f,_,_,rfl,rfl,hf2,?_,?_⟩
   ·have:Str.length ⟨#[97+(((tn:Int)+3 * (0+(i:Int))) % 26).toNat]⟩=1:=rfl;rw[this];exact ei (bC (by omega))
   ·rw[br,cU,bp,<-br,<-br];have:Str.length ⟨#[97+(((tn:Int)+3 * (0+(i:Int))) % 26).toNat]⟩=1:=rfl;rw[this];exact ei (bC (by omega))
   ·rw[am];unfold jN;rw[am,List.length_range];exact bC (by omega)
   ·refine⟨_,_,_,_,rfl,(hp'.upd (hp.nep hqH) (hp.nec hqH)).upd hfp hfc,?_,?_⟩
    ·intro b' o' e nb;rw[ai (ah e hfH)];exact kp (hex' b' o' e nb) hq
    ·rw[aa];unfold jN;rw[List.range_succ,aQ,aQ];congr 3;show[V.str _]=[V.str _];congr 2;refine lH ?_;rw[cU,cU,c1,c2,hpart,e26,oM];simp[xS,me]
  ·rintro σ H' ⟨a,b,c',d,rfl,hp',hex',hf'⟩;have en:((n:Int)).toNat=n:=by omega
   rw[en]at hf';exact⟨_,rfl,k f _ H' (zi hlen hlet (by omega) hn) (by unfold jN;rw[am,List.length_range]) hfH hf' hp' hex'⟩
structure aq where
 a:Str
 sg:List Str
 b:Str
deriving DecidableEq
def SignAt(H:Hp)(s:Addr)(sg:Zb):Prop:=H s=some (.tup (sg.map V.str))
def eU(H:Hp)(t:Addr)(d:aq):Prop:=∃s,H t=some (.tup [.str d.a,.ref s,.str d.b])/\SignAt H s d.sg
def AG(H H':Hp):Prop:=∀b xs,H b=some (.tup xs)->H' b=some (.tup xs)
theorem eU.kt{H H':Hp}{t:Addr}{d:aq}(k:AG H H')(h:eU H t d):eU H' t d:=by
 obtain⟨s,h1,h2⟩:=h;exact⟨s,k _ _ h1,k _ _ h2⟩
theorem dO.kt{p:Addr}{H H':Hp}{xs:List V}(e:dO p H H')(hp:H p=some (.lst xs)):AG H H':=fun b ys h=>e b _ h (fun z=>by rw[z,hp]at h;cases h)
theorem ae.kt{H H':Hp}(e:ae H H'):AG H H':=fun b ys h=>e b _ h
theorem AG.trans{H H1 H2:Hp}(a:AG H H1)(b:AG H1 H2):AG H H2:=fun x xs h=>b x xs (a x xs h)
theorem jl{H:Hp}{l:Addr}{xs:List V}{o:HO}(h:H l=some (.lst xs)):AG H (upd H l o):=fun b ys e=>by
 rw[ai (fun z=>by rw[z,h]at e;cases e)];exact e
abbrev dg(H:Hp)(ts:Ze)(ds:List aq):Prop:=Paired (eU H) ts ds
theorem Paired.get{α β:Type}{R:α->β->Prop}:∀{xs:List α}{ys:List β}{i:Nat}{y:β},Paired R xs ys->ys[i]?=some y->∃x,xs[i]?=some x/\R x y
 |_,_,i,y,.nil,h=>by simp at h
 |_,_,0,y,.cons r t,h=>by simp at h;subst h;exact⟨_,rfl,r⟩
 |_,_,i+1,y,.cons r t,h=>by
  simp at h;obtain⟨x,h1,h2⟩:=Paired.get t h;exact⟨x,by simpa using h1,h2⟩
theorem Paired.getL{α β:Type}{R:α->β->Prop}:∀{xs:List α}{ys:List β}{i:Nat}{x:α},Paired R xs ys->xs[i]?=some x->∃y,ys[i]?=some y/\R x y
 |_,_,i,y,.nil,h=>by simp at h
 |_,_,0,y,.cons r t,h=>by simp at h;subst h;exact⟨_,rfl,r⟩
 |_,_,i+1,y,.cons r t,h=>by
  simp at h;obtain⟨x,h1,h2⟩:=Paired.getL t h;exact⟨x,by simpa using h1,h2⟩
theorem dg.kt{H H':Hp}{ts:Ze}{ds:List aq}(k:AG H H')(h:dg H ts ds):dg H' ts ds:=Paired.mapP h fun _ _ r=>r.kt k
theorem upd_id{H:Hp}{a:Addr}{o:HO}(h:H a=some o):upd H a o=H:=by
 funext b;by_cases e:b=a
 ·subst e;rw[aa,h]
 ·rw[ai e]
def aS(x:Str):DT:=.k (.inr x)
def j1(d:aq):DT:=.t [aS d.a,.t (d.sg.map aS),aS d.b]
theorem lN{x y:Str}(h:aS x=aS y):x=y:=by
 unfold aS at h;injection h with h;injection h
theorem gP:∀{x y:Zb},x.map aS=y.map aS->x=y
 |[],[],_=>rfl
 |[],_::_,h=>by cases h
 |_::_,[],h=>by cases h
 |a::x,b::y,h=>by
  rw[bf,bf]at h;injection h with h1 h2;rw[lN h1,gP h2]
theorem GD{x y:aq}(h:j1 x=j1 y):x=y:=by
 unfold j1 at h;injection h with h;injection h with h1 h;injection h with h2 h;injection h with h3 h;injection h2 with h2;cases x;cases y;simp only at *;rw[lN h1,gP h2,lN h3]
theorem bY(xs:Zb):DT.depths (xs.map aS)=0:=by
 induction xs with
 |nil=>rfl
 |cons x xs ih=>rw[bf];show max (DT.depth (aS x)) (DT.depths _)=0;rw[ih];rfl
theorem w6(d:aq):(j1 d).depth=2:=by
 show DT.depths [aS d.a,.t (d.sg.map aS),aS d.b]+1=2;show max (DT.depth (aS d.a)) (max (DT.depths (d.sg.map aS)+1) (max (DT.depth (aS d.b)) 0))+1=2;rw[bY]
 rfl
theorem CL(ds:List aq):DT.depths (ds.map j1)<=8:=by
 induction ds with
 |nil=>exact bR _
 |cons x xs ih=>rw[bf];show max (DT.depth (j1 x)) (DT.depths _)<=8;rw[w6];omega
theorem fS{K:Za}{H:Hp}:∀xs:List Str,DIns K H (xs.map aS) (xs.map V.str)
 |[]=>by show DIns K H [] [];unfold DIns;rfl
 |x::xs=>by
  rw[bf,bf];unfold DIns;refine⟨_,_,rfl,?_,fS xs⟩;unfold aS kj
  rfl
theorem i_{K:Za}{H:Hp}(x:Str):kj K H (aS x) (.str x):=by unfold aS kj;rfl
theorem fU{K:Za}{H:Hp}{s:Addr}{sg:Zb}(h:b_ K H s (sg.map V.str)):kj K H (.t (sg.map aS)) (.ref s):=by
 unfold kj;exact⟨s,_,rfl,h,fS _⟩
theorem eU.dIn{K:Za}{H:Hp}{t:Addr}{d:aq}(h:eU H t d):kj K H (j1 d) (.ref t):=by
 obtain⟨s,h1,h2⟩:=h;unfold j1;unfold kj;refine⟨t,_,rfl,b_.of h1,?_⟩;unfold DIns;refine⟨_,_,rfl,i_ _,?_⟩;unfold DIns;refine⟨_,_,rfl,fU (b_.of h2),?_⟩;unfold DIns;refine⟨_,_,rfl,i_ _,?_⟩;unfold DIns
 rfl
theorem dg.dIns{K:Za}{H:Hp}:∀{ts:Ze}{ds:List aq},dg H ts ds->DIns K H (ds.map j1) (ts.map V.ref)
 |_,_,.nil=>by show DIns K H [] [];unfold DIns;rfl
 |_,_,.cons r t=>by
  rw[bf,bf];unfold DIns;exact⟨_,_,rfl,r.dIn,dg.dIns t⟩
theorem Bw{d:aq}{ds:List aq}:j1 d∈ds.map j1↔d∈ds:=by
 constructor
 ·intro h;obtain⟨x,hx,e⟩:=aO.mp h;rw[<-GD e];exact hx
 ·exact rK
def z5(ds:List aq)(d:aq):List aq:=if d∈ds then ds else ds++[d]
inductive sF (vs:List V)(H:Hp)(Q:VK)(E:XK):Prop
 |mk (l t:Addr) (ts:Ze) (ds:List aq) (d:aq):(vs=[.ref l,.ref t])->(H l=some (.lst (ts.map V.ref)))->(dg H ts ds)->(eU H t d)->(ds.length<=1000)->(∀ts':List Addr,dg H ts' (z5 ds d)->Q .non (upd H l (.lst (ts'.map V.ref))))->sF  vs H Q E
theorem HP{K:Za}{vs:List V}{H:Hp}{Q:VK}{E:XK}(h:sF vs H Q E):B_ K (bT Q) (start CV vs) H:=by
 obtain⟨l,t,ts,ds,d,rfl,hl,hd,ht,hz,k⟩:=h;refine⟨_,rfl,_,rfl,j1 d,ds.map j1,l,_,ht.dIn,rfl,.inl (aA.of hl),hd.dIns,by rw[w6];decide,CL ds,_,rfl,?_⟩;by_cases hm:d∈ds
 ·rw[if_pos rfl,zzr1 (Bw.mpr hm)];refine bu ?_;have:=k ts (by unfold z5;rw[if_pos hm];exact hd);rw[upd_id hl]at this;exact this
 ·rw[if_pos rfl,zzr0 (fun z=>hm (Bw.mp z))];refine bE ?_;refine⟨_,rfl,.inl ⟨rfl,_,aA.of hl⟩,_,rfl,l,_,_,rfl,rfl,hl,?_,?_⟩
  ·rw[am,Paired.length hd];exact bC hz
  ·have:=k (ts++[t]) (by unfold z5;rw[if_neg hm];exact vM hd ht);rw[aQ]at this;exact this
structure DI(R:aq->Prop)(H0:Hp)(p c l:Addr)(m:Nat)(H:Hp):Prop where
 pen:gU H p c
 ds:∃ts ds,H l=some (.lst (ts.map V.ref))/\dg H ts ds/\ds.Nodup/\(∀d∈ds,R d)/\ds.length<=m
 ex:dO p H0 H
 fr:H0 l=none
 pl:p≠l
 cl:c≠l
section
variable{R:aq->Prop}{H0 H H':Hp}{p c l:Addr}{m:Nat}
theorem gU.lst{H:Hp}{p c:Addr}(h:gU H p c):∃xs,H p=some (.lst xs):=by
 obtain⟨a,r,ns,h1,_⟩:=h;exact⟨_,h1⟩
theorem DI.took(h:DI R H0 p c l m H)(hp:gU H' p c)(e:dO p H H'):DI R H0 p c l m H':=by
 obtain⟨ts,ds,h1,h2,h3⟩:=h.ds;obtain⟨xs,hx⟩:=h.pen.lst;exact⟨hp,⟨ts,ds,e _ _ h1 h.pl.symm,h2.kt (e.kt hx),h3⟩,h.ex.trans e,h.fr,h.pl,h.cl⟩
theorem DI.new(h:DI R H0 p c l m H){q:Addr}{o:HO}(hq:H q=none):DI R H0 p c l m (upd H q o) :=
 h.took (h.pen.ex (ae.new hq)) (dO.new hq)
theorem DI.up(h:DI R H0 p c l m H){n:Nat}(hn:m<=n):DI R H0 p c l n H:=by
 obtain⟨ts,ds,h1,h2,h3,h4,h5⟩:=h.ds;exact⟨h.pen,⟨ts,ds,h1,h2,h3,h4,bj h5 hn⟩,h.ex,h.fr,h.pl,h.cl⟩
theorem DI.put(h:DI R H0 p c l m H){t:Addr}{d:aq}{Q:VK}{E:XK}(ht:eU H t d)(hR:R d)(hm:m<=1000)(k:∀H',DI R H0 p c l (m+1) H'->Q .non H'):sF [.ref l,.ref t] H Q E:=by
 obtain⟨ts,ds,h1,h2,h3,h4,h5⟩:=h.ds;refine⟨l,t,ts,ds,d,rfl,h1,h2,ht,bj h5 hm,fun ts' h'=>k _ ⟨h.pen.upd h.pl h.cl,⟨ts',z5 ds d,aa,h'.kt (jl h1),?_,?_,?_⟩,?_,h.fr,h.pl,h.cl⟩⟩
 ·unfold z5;split
  ·exact h3
  ·next hn =>
   rw[fG];refine⟨h3,by simp,?_⟩;intro a ha b hb e;have:b=d:=by simpa using hb
   subst this;exact hn (e▸ha)
 ·intro x hx;unfold z5 at hx;split at hx
  ·exact h4 x hx
  ·rcases bJ.mp hx with hx|hx
   ·exact h4 x hx
   ·have:x=d:=by simpa using hx
    rw[this];exact hR
 ·unfold z5;split
  ·omega
  ·rw[bp];show ds.length+1<=m+1;omega
 ·intro b o e n;rw[ai (ah e h.fr)];exact h.ex b o e n
end
theorem gU.ne_strs{H:Hp}{p c a:Addr}{ws:Zb}(hp:gU H p c)(ha:H a=some (.lst (ws.map V.str))):a≠p:=by
 intro e;obtain⟨x,y,ns,h1,_⟩:=hp;rw[e,h1]at ha;injection ha with ha;injection ha with ha;cases ws with
 |nil=>cases ha
 |cons w ws=>injection ha with ha;cases ha
theorem q0{K:Za}{r:R2}(hr:∀x y H Q,c6 K x y H Q->r x y H Q){σ:L2.St}{H:Hp}{Q:VK}{p c a:Addr}{j:Nat}{ws:Zb}(h0:σ[0]?=some (some (.ref p)))(hj:σ[j]?=some (some (.ref a)))(hp:gU H p c)
  (ha:H a=some (.lst (ws.map V.str))) (hne:ws≠[]) (hlen:ws.length<=1000) (k:∀w∈ws,∀H',gU H' p c->dO p H H'->Q (.str w) H') :
  ∃v,σ[j]?=some (some v)/\∃v0,σ[0]?=some (some v0)/\∃v1,σ[j]?=some (some v1)/\cV K [v1] H fun y H1=>eX [v0,y] H1 (fun y H2=>r v y H2 Q) E0:=by
 have hl:0<ws.length:=by cases ws with|nil=>exact absurd rfl hne|cons _ _=>simp
 have la:(V.int ((ws.map V.str).length:Nat))=V.int (ws.length:Nat):=by rw[am]
 have hpa:=hp.ne_strs ha;have fin:∀(x:Int) (H':Hp),0<=x->x<(ws.length:Int)->gU H' p c->dO p H H'->c6 K (.ref a) (.int x) H' Q:=by
  intro x H' x0 x1 hp' ex;obtain⟨n,rfl⟩:=je x0;have hn:n<ws.length:=by omega
  exact⟨a,_,(n:Int),.str ws[n],rfl,rfl,aA.of (ex _ _ ha hpa),cf (by simp[hn]),k _ (List.getElem_mem hn) H' hp' ex⟩
 exact⟨_,hj,_,h0,_,hj,.inl ⟨a,_,rfl,.inl (aA.of ha),by rw[la];exact dC hp (by omega) (by omega) fun x H' x0 x1 hp' ex=>hr _ _ _ _ (fin x H' x0 x1 hp' ex)⟩⟩
def Up(up:Bool)(J5:Zb)(a b:Str):Prop:=∃i j:Nat,J5[i]?=some a/\J5[j]?=some b/\(if up=true then i<j else j<i)
structure lq(J0 J4 J5:Zb)(up:Bool)(d:aq):Prop where
 a:d.a∈J5
 b:d.b∈J5
 sg:(∃w∈J0,d.sg=[("ask":Str),w])∨(∃w∈J4,d.sg=[("say":Str),w])∨(d.sg=[("still":Str)]/\Up up J5 d.a d.b)
def aG:List Str:=[("still":Str)]
structure Fv(J0 J4 J5:Zb)(d:aq):Prop where
 a:d.a∈J5
 b:d.b∈J5
 sg:(∃w∈J0,d.sg=[("ask":Str),w])∨(∃w∈J4,d.sg=[("say":Str),w])∨d.sg=aG
theorem lq.d{J0 J4 J5:Zb}{up:Bool}{d:aq}(h:lq J0 J4 J5 up d):Fv J0 J4 J5 d:=⟨h.a,h.b,h.sg.imp id (Or.imp id And.left)⟩
inductive Reach(ds:List aq)(a:Str):Str->Prop
 |one {b:Str}(h:(⟨a,aG,b⟩:aq)∈ds):Reach ds a b
 |step {b c:Str}(r:Reach ds a b) (h:(⟨b,aG,c⟩:aq)∈ds):Reach ds a c
theorem BC{J5:Zb}(nd:J5.Nodup){i j:Nat}{a:Str}(hi:J5[i]?=some a)(hj:J5[j]?=some a):i=j:=by
 obtain⟨h1,e1⟩:=db.mp hi;obtain⟨h2,e2⟩:=db.mp hj;have pw:=List.pairwise_iff_getElem.mp nd;rcases Nat.lt_trichotomy i j with h|h|h
 ·exact absurd (e1.trans e2.symm) (pw i j h1 h2 h)
 ·exact h
 ·exact absurd (e2.trans e1.symm) (pw j i h2 h1 h)
theorem Up.trans{up:Bool}{J5:Zb}(nd:J5.Nodup){a b c:Str}(h1:Up up J5 a b)(h2:Up up J5 b c):Up up J5 a c:=by
 obtain⟨i,j,e1,e2,h⟩:=h1;obtain⟨j',k,e3,e4,h'⟩:=h2;have:=BC nd e2 e3;subst this;refine⟨i,k,e1,e4,?_⟩;cases up
 ·simp at h h' ⊢;omega
 ·simp at h h' ⊢;omega
theorem Up.irr{up:Bool}{J5:Zb}(nd:J5.Nodup){a:Str}(h:Up up J5 a a):False:=by
 obtain⟨i,j,e1,e2,h⟩:=h;have:=BC nd e1 e2;subst this;cases up
 ·simp at h
 ·simp at h
theorem Dk{J0 J4 J5:Zb}{ds:List aq}{up:Bool}(nd:J5.Nodup)(m:∀d∈ds,lq J0 J4 J5 up d){a b:Str}(h:Reach ds a b):Up up J5 a b:=by
 have edge:∀{a b:Str},(⟨a,aG,b⟩:aq)∈ds->Up up J5 a b:=by
  intro a b h;rcases(m _ h).sg with⟨w,_,e⟩|⟨w,_,e⟩|⟨_,e⟩
  ·cases e
  ·cases e
  ·exact e
 induction h with
 |one h=>exact edge h
 |step r h ih=>exact ih.trans nd (edge h)
inductive gD (vs:List V)(H:Hp)(Q:VK)(E:XK):Prop
 |mk (p c l1 l2 l3:Addr) (J0 J4 J5:Zb) (full:Int):(vs=[.ref p,.ref l1,.ref l2,.ref l3,.int full])->(gU H p c)->(H l1=some (.lst (J0.map V.str)))->(H l2=some (.lst (J4.map V.str)))->(H l3=some (.lst (J5.map V.str)))->(J0.length<=4)->(J4≠[])->(J4.length<=4)->(J5≠[])->(J5.length<=26)->(0<=full)->(full<=2)->(∀(l:Addr) (ts:Ze) (ds:List aq) (up:Bool) (H':Hp),H l=none->H' l=some (.lst (ts.map V.ref))->dg H' ts ds->ds.Nodup->(∀d∈ds,lq J0 J4 J5 up d)->ds.length<=600->gU H' p c->dO p H H'->Q (.ref l) H')->gD  vs H Q E
theorem at4{x r:Int}(x0:0<=x)(x2:x<=2)(r0:0<=r)(r4:r<4):∃j:Int,xJ [V.int x,.int 1,.int 1,.int 2] r=some (.int j)/\0<=j/\j<=2:=by
 have:r=0∨r=1∨r=2∨r=3:=by omega
 rcases this with rfl|rfl|rfl|rfl
 ·exact⟨x,rfl,x0,x2⟩
 ·exact⟨1,rfl,by decide,by decide⟩
 ·exact⟨1,rfl,by decide,by decide⟩
 ·exact⟨2,rfl,by decide,by decide⟩
theorem pP(ws:Zb)(k:Nat):df (ws.map V.str) (some (k:Int)) none=(ws.drop k).map V.str:=by
 unfold df;rw[HT.sIx_none,HT.sIx_nat,am,rN (by rw[fm,am];omega),vq];by_cases h:k<=ws.length
 ·rw[oz h]
 ·rw[vp (by omega),oE (by simp),oE (by rw[am];omega)]
theorem rp(ws:Zb)(k:Nat):df (ws.map V.str) none (some (k:Int))=(ws.take k).map V.str:=by
 unfold df;rw[HT.sIx_none,HT.sIx_nat,am,mq,vA,rO,List.take_eq_take_iff,am];omega
theorem tF{K:Za}{H:Hp}{a:Addr}{ws:Zb}(h:aA K H a (ws.map V.str)):kj K H (.s (ws.map aS)) (.ref a):=by
 unfold kj;exact⟨a,_,rfl,h,fS _⟩
theorem GC{K:Za}{H:Hp}{a:Addr}(h:aA K H a []):kj K H (.s []) (.ref a):=by
 unfold kj;refine⟨a,_,rfl,h,?_⟩;unfold DIns
 rfl
theorem uj{K:Za}{vs:List V}{H:Hp}{Q:VK}{E:XK}(h:gD vs H Q E):o0 K eX sF (bT Q) (start pS vs) H:=by
 obtain⟨p,c,l1,l2,l3,J0,J4,J5,full,rfl,hp,h1,h2,h3,ha,hs0,hs,hr0,hr,f0,f2,k⟩:=h;have n1:=hp.ne_strs h1;have n2:=hp.ne_strs h2;have n3:=hp.ne_strs h3;refine⟨(by show 0<=aj;decide),fun l hl=>?_⟩;have hpl:=hp.nep hl;have hcl:=hp.nec hl;refine⟨_,rfl,dC (hp.ex (ae.new hl)) (by decide) (by decide) fun dn H1 d0 d1 hp1 ex1=>?_⟩;generalize hG:lq J0 J4 J5 (decide (dn=0))=G;have base:DI G H p c l 0 H1:=⟨hp1,⟨[],[],ex1 _ _ aa hpl.symm,.nil,ix,by simp,bR _⟩,(dO.new hl).trans ex1,hl,hpl,hcl⟩;refine⟨_,rfl,l3,rfl,⟨_,aA.of (base.ex _ _ h3 n3)⟩,?_⟩;refine eW (xs:=J5.map V.str) (fun i σ H'=>∃a7 a8 a9 a10 a11 a12:Option V,σ=[some (.ref p),some (.ref l1),some (.ref l2),some (.ref l3),some (.int full),some (.ref l),some (.int dn),a7,a8,a9,a10,a11,a12]/\DI G H p c l (11 * i) H')
  ⟨_,_,_,_,_,_,rfl,base⟩ (fun i σ H' _ ⟨_,_,_,_,_,_,_,D⟩=>aA.of (D.ex _ _ h3 n3)) ?_ ?_
 ·rintro i x σ H' t hi ⟨a7,a8,a9,a10,a11,a12,rfl,D⟩ ht;obtain⟨room,hroom,rfl⟩:∃room,J5[i]?=some room/\x=V.str room:=by
   rw[cb]at hi;cases q:J5[i]? with
   |none=>rw[q]at hi;cases hi
   |some r=>rw[q]at hi;exact⟨r,rfl,(dX hi).symm⟩
  have hiL:i<J5.length:=(db.mp hroom).1;have hmem:room∈J5:=cu hroom;refine⟨t,_,rfl,b_.of aa,rfl,_,_,rfl,_,_,rfl,rfl,?_⟩;have D1:=D.new ht (o:=.tup [.int i,.str room]);refine⟨(by show 4<=aj;decide),fun q hq=>⟨_,rfl,dC (D1.new hq).pen (by decide) (by decide) fun r H2 r0 r1 hp2 ex2=>?_⟩⟩;obtain⟨j,hj,j0,j2⟩:=at4 (x:=0) (by decide) (by decide) r0 r1;have D2:=(D1.new hq).took hp2 ex2;refine⟨q,_,_,_,rfl,rfl,aA.of (ex2 q _ aa (D1.pen.nep hq).symm),hj,j,rfl,by omega,by omega,?_⟩;refine lS (lo:=0) (n:=j.toNat) (fun i' σ H''=>∃a9 a10:Option V,σ=[some (.ref p),some (.ref l1),some (.ref l2),some (.ref l3),some (.int full),some (.ref l),some (.int dn),some (.int i),some (.str room),a9,a10,a11,a12]/\DI G H p c l (11 * i+i') H'')
   ⟨_,_,rfl,D2⟩ ?_ ?_
  ·rintro i' σ H3 hi' ⟨a9,a10,rfl,D3⟩;refine q0 (fun _ _ _ _ h=>h) rfl rfl D3.pen (D3.ex _ _ h2 n2) hs0 (by omega) fun w hw H4 hp4 ex4=>?_;have D4:=D3.took hp4 ex4;refine⟨(by show 2<=aj;decide),fun sg hsg=>?_⟩;have D5:=D4.new hsg (o:=.tup [.str "say",.str w]);refine⟨_,rfl,_,rfl,_,rfl,q0 (fun _ _ _ _ h=>h) rfl rfl D5.pen (D5.ex _ _ h3 n3) hr0 (by omega) fun w2 hw2 H6 hp6 ex6=>?_⟩;have D6:=D5.took hp6 ex6;refine⟨(by show 3<=aj;decide),fun dr hdr=>?_⟩;have D7:=D6.new hdr (o:=.tup [.str room,.ref sg,.str w2]);have hsg6:H6 sg=some (.tup [.str "say",.str w]):=ex6 _ _ aa (D4.pen.nep hsg).symm;refine D7.put (d:=⟨room,["say",w],w2⟩) ⟨sg,aa,kp hsg6 hdr⟩ ?_ (by omega) fun H8 D8=>⟨_,_,rfl,D8⟩;rw[<-hG];exact⟨hmem,hw2,.inr (.inl ⟨w,hw,rfl⟩)⟩
  rintro σ H3 ⟨a9,a10,rfl,D3'⟩;have D3:DI G H p c l (11 * i+2) H3:=D3'.up (by omega);clear D3';refine⟨_,rfl,l1,rfl,⟨_,aA.of (D3.ex _ _ h1 n1)⟩,?_⟩;refine gR (xs:=J0.map V.str) (fun i' σ H''=>∃a9 a11:Option V,σ=[some (.ref p),some (.ref l1),some (.ref l2),some (.ref l3),some (.int full),some (.ref l),some (.int dn),some (.int i),some (.str room),a9,a10,a11,a12]/\DI G H p c l (11 * i+2+2 * i') H'')
   ⟨_,_,rfl,D3⟩ (fun i σ H' _ ⟨_,_,_,D⟩=>aA.of (D.ex _ _ h1 n1)) ?_ ?_
  ·rintro i' x σ H4 hi' ⟨a9,a11,rfl,D4⟩;obtain⟨ask,hask,rfl⟩:∃ask,J0[i']?=some ask/\x=V.str ask:=by
    rw[cb]at hi';cases q:J0[i']? with
    |none=>rw[q]at hi';cases hi'
    |some r=>rw[q]at hi';exact⟨r,rfl,(dX hi').symm⟩
   have hi2:i'<J0.length:=(db.mp hask).1;have hm2:ask∈J0:=cu hask;refine⟨_,rfl,(by show 4<=aj;decide),fun q hq=>⟨_,rfl,dC (D4.new hq).pen (by decide) (by decide) fun r H5 r0 r1 hp5 ex5=>?_⟩⟩;obtain⟨j,hj,j0,j2⟩:=at4 f0 f2 r0 r1;have D5:=(D4.new hq).took hp5 ex5;refine⟨q,_,_,_,rfl,rfl,aA.of (ex5 q _ aa (D4.pen.nep hq).symm),hj,j,rfl,by omega,by omega,?_⟩;refine lS (lo:=0) (n:=j.toNat) (fun i'' σ H''=>∃a9:Option V,σ=[some (.ref p),some (.ref l1),some (.ref l2),some (.ref l3),some (.int full),some (.ref l),some (.int dn),some (.int i),some (.str room),a9,a10,some (.str ask),a12]/\DI G H p c l (11 * i+2+2 * i'+i'') H'')
    ⟨_,rfl,D5⟩ ?_ ?_
   ·rintro i'' σ H6 hi'' ⟨a9,rfl,D6⟩;refine⟨_,rfl,_,rfl,_,rfl,(by show 2<=aj;decide),fun sg hsg=>?_⟩;have D7:=D6.new hsg (o:=.tup [.str "ask",.str ask]);refine q0 (fun _ _ _ _ h=>h) rfl rfl D7.pen (D7.ex _ _ h3 n3) hr0 (by omega) fun w2 hw2 H8 hp8 ex8=>?_;have D8:=D7.took hp8 ex8;refine⟨(by show 3<=aj;decide),fun dr hdr=>?_⟩;have D9:=D8.new hdr (o:=.tup [.str room,.ref sg,.str w2]);have hsg8:H8 sg=some (.tup [.str "ask",.str ask]):=ex8 _ _ aa (D6.pen.nep hsg).symm;refine D9.put (d:=⟨room,["ask",ask],w2⟩) ⟨sg,aa,kp hsg8 hdr⟩ ?_ (by omega) fun H8 D8=>⟨_,rfl,D8⟩;rw[<-hG];exact⟨hmem,hw2,.inl ⟨ask,hm2,rfl⟩⟩
   ·rintro σ H6 ⟨a9,rfl,D6⟩;exact⟨_,_,rfl,D6.up (by omega)⟩
  rintro σ H4 ⟨a9,a11,rfl,D4'⟩;have D4:DI G H p c l (11 * i+10) H4:=D4'.up (by rw[am];omega);clear D4';have hnext:∀(H9:Hp) (a12:Option V),DI G H p c l (11 * i+11) H9->∃a7 a8 a9' a10' a11' a12':Option V,[some (.ref p),some (.ref l1),some (.ref l2),some (.ref l3),some (.int full),some (.ref l),some (.int dn),some (.int i),some (.str room),a9,a10,a11,a12] =
    [some (.ref p),some (.ref l1),some (.ref l2),some (.ref l3),some (.int full),some (.ref l),some (.int dn),a7,a8,a9',a10',a11',a12']/\DI G H p c l (11 * (i+1)) H9:=fun H9 a12 D9=>⟨_,_,_,_,_,_,rfl,D9.up (by omega)⟩
  refine⟨_,rfl,_,rfl,_,_,rfl,rfl,_,rfl,l3,_,rfl,aA.of (D4.ex _ _ h3 n3),fun q1 hq1=>?_⟩;have D5:=D4.new hq1 (o:=.lst (df (J5.map V.str) (some ((i:Int)+1)) none));refine⟨_,rfl,_,rfl,_,rfl,l3,_,rfl,aA.of (D5.ex _ _ h3 n3),fun q2 hq2=>?_⟩;have e1:df (J5.map V.str) (some ((i:Int)+1)) none=(J5.drop (i+1)).map V.str:=pP J5 (i+1);rw[rp];have D6:=D5.new hq2 (o:=.lst ((J5.take i).map V.str));refine⟨(by show 2<=aj;decide),fun q3 hq3=>?_⟩;have D7:=D6.new hq3 (o:=.lst [.ref q1,.ref q2]);obtain⟨lt,q,hq,hlt,hgood⟩:∃(lt:Zb) (q:Addr),xJ [V.ref q1,.ref q2] dn=some (.ref q) /\
    upd (upd (upd H4 q1 (.lst (df (J5.map V.str) (some ((i:Int)+1)) none))) q2 (.lst ((J5.take i).map V.str))) q3 (.lst [.ref q1,.ref q2]) q=some (.lst (lt.map V.str))/\lt.length<=26 /\
    ∀w∈lt,w∈J5/\Up (decide (dn=0)) J5 room w:=by
   have:dn=0∨dn=1:=by omega
   rcases this with rfl|rfl
   ·refine⟨J5.drop (i+1),q1,rfl,?_,by rw[fm];omega,fun w hw=>⟨List.mem_of_mem_drop hw,?_⟩⟩
    ·refine(kp (kp aa hq2) hq3).trans ?_;rw[e1]
    ·obtain⟨n,hn⟩:=List.getElem?_of_mem hw;rw[List.getElem?_drop]at hn;exact⟨i,i+1+n,hroom,hn,by rw[if_pos (by decide)];omega⟩
   ·refine⟨J5.take i,q2,rfl,?_,by rw[aP];omega,fun w hw=>⟨gW hw,?_⟩⟩
    ·exact kp aa hq3
    ·obtain⟨n,hn⟩:=List.getElem?_of_mem hw;have hnl:n<i:=by
      have:=(db.mp hn).1;rw[aP]at this;omega
     rw[List.getElem?_take_of_lt hnl]at hn;exact⟨i,n,hroom,hn,by rw[if_neg (by decide)];omega⟩
  refine⟨_,rfl,q3,_,_,_,rfl,rfl,aA.of aa,hq,?_⟩;generalize upd (upd (upd H4 q1 (.lst (df (J5.map V.str) (some ((i:Int)+1)) none))) q2 (.lst ((J5.take i).map V.str))) q3 (.lst [.ref q1,.ref q2])=H7 at D7 hlt ⊢;refine⟨_,rfl,(by show 0<=aj;decide),fun e he=>⟨.s (lt.map aS),.s [],tF (aA.of (kp hlt he)),GC (aA.of aa),?_,by decide,_,rfl,?_⟩⟩
  ·show DT.depths (lt.map aS)+1<=8;rw[bY];decide
  have D8:=D7.new he (o:=.lst []);by_cases hz:lt=[]
  ·have ez:(!decide (DT.s (lt.map aS)=DT.s []))=false:=by rw[hz,zzr1 (by rfl)];rfl
   rw[ez];exact bu (bu (hnext _ _ (D8.up (by omega))))
  ·have ez:(!decide (DT.s (lt.map aS)=DT.s []))=true:=by
    rw[zzr0 (fun z=>hz (gP (y:=[]) (by injection z)))];rfl
   rw[ez];refine bE ?_;refine⟨_,rfl,dC D8.pen (by decide) (by decide) fun r H9 r0 r1 hp9 ex9=>⟨rfl,_,rfl,?_⟩⟩;have D9:=D8.took hp9 ex9;refine eA (fun _=>?_) (fun _=>hnext _ _ (D9.up (by omega)));refine⟨_,rfl,_,rfl,(by show 1<=aj;decide),fun sg hsg=>?_⟩;have D10:=D9.new hsg (o:=.tup [.str "still"]);have hlt10:upd H9 sg (.tup [.str "still"]) q=some (.lst (lt.map V.str)):=kp (ex9 _ _ (kp hlt he) (D8.pen.ne_strs (kp hlt he))) hsg;refine q0 (fun _ _ _ _ h=>.inl h) rfl rfl D10.pen hlt10 hz (by omega) fun w2 hw2 H11 hp11 ex11=>?_;have D11:=D10.took hp11 ex11;refine⟨(by show 3<=aj;decide),fun dr hdr=>?_⟩;have D12:=D11.new hdr (o:=.tup [.str room,.ref sg,.str w2]);have hsg11:H11 sg=some (.tup [.str "still"]):=ex11 _ _ aa (D9.pen.nep hsg).symm;refine D12.put (d:=⟨room,[("still":Str)],w2⟩) ⟨sg,aa,kp hsg11 hdr⟩ ?_ (by omega) fun H13 D13=>hnext _ _ D13;rw[<-hG];exact⟨hmem,(hgood.2 w2 hw2).1,.inr (.inr ⟨rfl,(hgood.2 w2 hw2).2⟩)⟩
 ·rintro σ H' ⟨a7,a8,a9,a10,a11,a12,rfl,D⟩;obtain⟨ts,ds,g1,g2,g3,g4,g5⟩:=D.ds;rw[am]at g5;rw[<-hG]at g4;exact⟨_,rfl,k l ts ds _ H' hl g1 g2 g3 g4 (by omega) D.pen D.ex⟩
structure cg(J0 J4 J5:Zb)(ds:List aq):Prop where
 okA:eJ J0
 okS:eJ J4
 apart:∀w∈J4,w∉J0
 okR:eJ J5
 asks0:J0≠[]
 says0:J4≠[]
 rooms0:J5≠[]
 asks4:J0.length<=4
 says4:J4.length<=4
 rooms26:J5.length<=150
 nodup:ds.Nodup
 good:∀d∈ds,Fv J0 J4 J5 d
 few:ds.length<=1000
 noround:∀r,¬Reach ds r r
structure IJ(H:Hp)(t l1 l2 l3 l4:Addr)(ts:Ze)(J0 J4 J5:Zb)(ds:List aq):Prop where
 t:H t=some (.tup [.ref l1,.ref l2,.ref l3,.ref l4])
 a1:H l1=some (.lst (J0.map V.str))
 a2:H l2=some (.lst (J4.map V.str))
 a3:H l3=some (.lst (J5.map V.str))
 a4:H l4=some (.lst (ts.map V.ref))
 ds:dg H ts ds
inductive nI (vs:List V)(H:Hp)(Q:VK)(E:XK):Prop
 |mk (p c:Addr) (most full:Int):(vs=[.ref p,.int most,.int full])->(gU H p c)->(0<most)->(most<=25)->(0<=full)->(full<=2)->(∀(t l1 l2 l3 l4:Addr) (ts:Ze) (J0 J4 J5:Zb) (ds:List aq) (H':Hp),IJ H' t l1 l2 l3 l4 ts J0 J4 J5 ds->cg J0 J4 J5 ds->J5.length<=most.toNat->ds.length<=600->gU H' p c->dO p H H'->Q (.ref t) H')->nI  vs H Q E
theorem at6{r:Int}(r0:0<=r)(r6:r<6):∃n:Nat,xJ [V.int 0,.int 1,.int 1,.int 2,.int 2,.int 3] r=some (.int n)/\n<=3:=by
 have:r=0∨r=1∨r=2∨r=3∨r=4∨r=5:=by omega
 rcases this with rfl|rfl|rfl|rfl|rfl|rfl
 ·exact⟨0,rfl,by decide⟩
 ·exact⟨1,rfl,by decide⟩
 ·exact⟨1,rfl,by decide⟩
 ·exact⟨2,rfl,by decide⟩
 ·exact⟨2,rfl,by decide⟩
 ·exact⟨3,rfl,by decide⟩
theorem Fk{ws:Zb}(hw:ws.length=8){n:Nat}(hn:n<=3):df (ws.map V.str) (some 4) (some (5+(n:Int)))=((ws.drop 4).take (1+n)).map V.str:=by
 unfold df;have s1:HT.sIx (ws.map V.str).length 0 (some 4)=min 4 (ws.map V.str).length:=HT.sIx_nat _ _ 4;have s2:HT.sIx (ws.map V.str).length (ws.map V.str).length (some (5+(n:Int)))=min (5+n) (ws.map V.str).length:=HT.sIx_nat _ _ (5+n);rw[s1,s2,am,hw,rO,vq];have e1:min 4 8=4:=by decide
 have e2:min (5+n) 8-4=1+n:=by omega
 rw[e1,e2]
theorem DO{K:Za}{vs:List V}{H:Hp}{Q:VK}{E:XK}(h:nI vs H Q E):xY K gD nG eX wd (bT Q) (start y6 vs) H:=by
 obtain⟨p,c,most,full,rfl,hp,m0,m1,f0,f2,k⟩:=h;refine⟨_,rfl,p,c,rfl,hp,fun H1 hp1 ex1=>?_⟩;refine⟨_,rfl,p,c,8,rfl,hp1,by decide,fun lw ws H2 ok len fr hl hp2 ex2=>?_⟩;have e2:=ex1.trans ex2;have nw:=hp2.ne_strs hl;refine⟨_,rfl,(by show 6<=aj;decide),fun q hq=>⟨_,rfl,dC (hp2.ex (ae.new hq)) (by decide) (by decide) fun r H3 r0 r1 hp3 ex3=>?_⟩⟩;obtain⟨n,hn,n3⟩:=at6 r0 r1;have hl3:H3 lw=some (.lst (ws.map V.str)):=ex3 _ _ (kp hl hq) nw;refine⟨q,_,_,_,rfl,rfl,aA.of (ex3 _ _ aa (hp2.nep hq).symm),hn,_,_,rfl,rfl,_,rfl,lw,_,rfl,aA.of hl3,fun l1 hl1=>?_⟩;have ea:df (ws.map V.str) none (some (1+(n:Int)))=(ws.take (1+n)).map V.str:=rp ws (1+n);rw[ea];have e3:dO p H H3:=e2.trans ((dO.new hq).trans ex3);have hp4:gU (upd H3 l1 (.lst ((ws.take (1+n)).map V.str))) p c:=hp3.ex (ae.new hl1);have e4:dO p H (upd H3 l1 (.lst ((ws.take (1+n)).map V.str))):=e3.trans (dO.new hl1);have hl4:upd H3 l1 (.lst ((ws.take (1+n)).map V.str)) lw=some (.lst (ws.map V.str)):=kp hl3 hl1;have ha4:upd H3 l1 (.lst ((ws.take (1+n)).map V.str)) l1=some (.lst ((ws.take (1+n)).map V.str)):=aa;generalize upd H3 l1 (.lst ((ws.take (1+n)).map V.str))=H4 at hp4 e4 hl4 ha4 ⊢;refine⟨_,rfl,_,rfl,(by show 6<=aj;decide),fun q hq=>⟨_,rfl,dC (hp4.ex (ae.new hq)) (by decide) (by decide) fun r H5 r0 r1 hp5 ex5=>?_⟩⟩;obtain⟨m,hm,m3⟩:=at6 r0 r1;have hl5:H5 lw=some (.lst (ws.map V.str)):=ex5 _ _ (kp hl4 hq) nw;have ha5:H5 l1=some (.lst ((ws.take (1+n)).map V.str)):=ex5 _ _ (kp ha4 hq) (hp4.ne_strs ha4);refine⟨q,_,_,_,rfl,rfl,aA.of (ex5 _ _ aa (hp4.nep hq).symm),hm,_,_,rfl,rfl,_,rfl,lw,_,rfl,aA.of hl5,fun l2 hl2=>?_⟩;rw[Fk len m3];have e5:dO p H H5:=e4.trans ((dO.new hq).trans ex5);have hp6:gU (upd H5 l2 (.lst (((ws.drop 4).take (1+m)).map V.str))) p c:=hp5.ex (ae.new hl2);have e6:dO p H (upd H5 l2 (.lst (((ws.drop 4).take (1+m)).map V.str))):=e5.trans (dO.new hl2);have ha6:upd H5 l2 (.lst (((ws.drop 4).take (1+m)).map V.str)) l1=some (.lst ((ws.take (1+n)).map V.str)):=kp ha5 hl2;have hb6:upd H5 l2 (.lst (((ws.drop 4).take (1+m)).map V.str)) l2=some (.lst (((ws.drop 4).take (1+m)).map V.str)):=aa;generalize upd H5 l2 (.lst (((ws.drop 4).take (1+m)).map V.str))=H6 at hp6 e6 ha6 hb6 ⊢;refine⟨_,rfl,_,rfl,_,rfl,dC hp6 m0 (by omega) fun r H7 r0 r1 hp7 ex7=>?_⟩;obtain⟨rn,rfl⟩:=je r0;have ha7:=ex7 _ _ ha6 (hp6.ne_strs ha6);have hb7:=ex7 _ _ hb6 (hp6.ne_strs hb6);refine⟨_,_,rfl,rfl,p,c,1+rn,rfl,hp7,by omega,fun l3 J5 H8 okr lenr fr3 hl3' hp8 ex8=>?_⟩;have ha8:=ex8 _ _ ha7 (hp7.ne_strs ha7);have hb8:=ex8 _ _ hb7 (hp7.ne_strs hb7);have hs0:(ws.drop 4).take (1+m)≠[]:=by
  intro z;have:=congrArg List.length z;rw[aP,fm,len]at this;simp at this
 have ha0:ws.take (1+n)≠[]:=by
  intro z;have:=congrArg List.length z;rw[aP,len]at this;simp at this
 have hr0:J5≠[]:=by
  intro z;rw[z]at lenr;simp at lenr;omega
 refine⟨_,rfl,_,rfl,_,rfl,_,rfl,_,rfl,p,c,l1,l2,l3,_,_,J5,full,rfl,hp8,ha8,hb8,hl3',by rw[aP];omega,hs0,by rw[aP];omega,hr0,by omega,f0,f2,fun l4 ts ds up H9 fr4 hl4' hds nod good few hp9 ex9=>?_⟩;have ha9:=ex9 _ _ ha8 (hp8.ne_strs ha8);have hb9:=ex9 _ _ hb8 (hp8.ne_strs hb8);have hc9:=ex9 _ _ hl3' (hp8.ne_strs hl3');refine⟨_,rfl,_,rfl,_,rfl,_,rfl,(by show 4<=aj;decide),fun t ht=>k t l1 l2 l3 l4 ts _ _ J5 ds _ ⟨aa,kp ha9 ht,kp hb9 ht,kp hc9 ht,kp hl4' ht,hds.kt (ae.kt (ae.new ht))⟩ ?_ ?_ few (hp9.ex (ae.new ht)) ?_⟩
 ·refine⟨⟨?_,fun w h=>ok.2 w (gW h)⟩,⟨?_,fun w h=>ok.2 w (List.mem_of_mem_drop (gW h))⟩,?_,okr,ha0,hs0,hr0,by rw[aP];omega,by rw[aP];omega,by omega,nod,fun d hd=>(good d hd).d,by omega,fun r z=>(Dk okr.1 good z).irr okr.1⟩
  ·exact ok.1.sublist (List.take_sublist _ _)
  ·exact ok.1.sublist ((List.take_sublist _ _).trans (List.drop_sublist _ _))
  ·intro w h1 h2;have h3:w∈ws.drop 4:=gW h1;have h4:w∈ws.take 4:=by
    have:ws.take (1+n)=(ws.take 4).take (1+n):=by rw[List.take_take];congr 1;omega
    rw[this]at h2;exact gW h2
   have:=ok.1;rw[<-rJ 4 ws,fG]at this;exact this.2.2 w h4 w h3 rfl
 ·omega
 ·exact(((e6.trans ex7).trans ex8).trans ex9).trans (dO.new ht)
theorem dE{ws:Zb}{i:Nat}{x:V}(h:(ws.map V.str)[i]?=some x):∃w,ws[i]?=some w/\x=.str w:=by
 rw[cb]at h;cases q:ws[i]? with
 |none=>rw[q]at h;cases h
 |some r=>rw[q]at h;exact⟨r,rfl,(dX h).symm⟩
theorem take_snoc{α:Type}{ws:List α}{i:Nat}{w:α}(h:ws[i]?=some w):ws.take (i+1)=ws.take i++[w]:=by
 obtain⟨hi,rfl⟩:=db.mp h;rw[List.take_succ_eq_append_getElem hi]
def eV(w:Str):Bool:=!decide (w=("":Str)) && (decide (w.length<=8) && w.cps.toList.all fun c=>decide (c∈("abcdefghijklmnopqrstuvwxyz":Str).cps.toList))
theorem j4.b{w:Str}(h:j4 w):eV w=true:=by
 unfold eV;have h1:¬(w=("":Str)):=fun e=>by
  have:=h.lo;rw[e]at this;exact absurd this (by decide +kernel)
 rw[zzr0 h1,zzr1 h.hi,Bool.not_false,kz,kz,List.all_eq_true];intro c hc;obtain⟨c1,c2⟩:=h.al c hc;refine zzr1 ?_;have:=xx (c-97) (by omega);have e:97+(c-97)=c:=by omega
 rw[e]at this;exact cu this
inductive sp_is_name (vs:List V)(H:Hp)(Q:VK)(E:XK):Prop
 |mk (w:Str):(vs=[.str w])->(w.length<=1000)->(∀H',ae H H'->Q (.bl (eV w)) H')->sp_is_name  vs H Q E
theorem zV{K:Za}{vs:List V}{H:Hp}{Q:VK}{E:XK}(h:sp_is_name vs H Q E):Cb K (bT Q) (start CY vs) H:=by
 obtain⟨w,rfl,hz,k⟩:=h;refine⟨_,rfl,rfl,_,rfl,?_⟩;have ed:(!decide (V.str w=V.str ("":Str)))=!decide (w=("":Str)):=by
  congr 1;by_cases e:w=("":Str)
  ·rw[zzr1 e,zzr1 (by rw[e])]
  ·rw[zzr0 e,zzr0 (fun z=>e (by injection z))]
 rw[ed];refine eA (fun h1=>?_) (fun h1=>?_)
 ·refine⟨_,rfl,.inr ⟨w,rfl,ei (bC hz),_,_,rfl,rfl,_,rfl,?_⟩⟩;refine eA (fun h2=>?_) (fun h2=>?_)
  ·refine⟨_,rfl,w,rfl,fun l hl=>?_⟩;refine yV (fun i vs H'=>vs=((w.cps.toList.take i).map fun c=>V.bl (decide (c∈("abcdefghijklmnopqrstuvwxyz":Str).cps.toList)))/\ae H H'/\H' l=some (.lst vs))
    ⟨rfl,ae.new hl,aa⟩ (fun i vs H' _ h=>h.2.2) ?_ ?_
   ·rintro vs H' ⟨rfl,hS,hl'⟩;refine⟨l,w.cps.toList.map fun c=>decide (c∈("abcdefghijklmnopqrstuvwxyz":Str).cps.toList),rfl,aA.of ?_,?_⟩
    ·rw[hl',dR];have:w.cps.toList.take w.cps.size=w.cps.toList:=by
      rw[rN];simp
     rw[this]
     rfl
    ·have:=k H' hS;have h2':decide (w.length<=8)=true:=zzr1 (by have:=of_decide_eq_true h2;omega);unfold eV at this;rw[h1,h2',kz,kz]at this;rw[mn];exact this
   ·rintro i vs H' c hc hi ⟨rfl,hS,hl'⟩;refine gN (t7 ?_);refine⟨_,rfl,c,_,rfl,rfl,hl',?_,u3 hi ⟨?_,?_,aa⟩⟩
    ·rw[am,aP];have:w.length=w.cps.toList.length:=br w;exact bC (by omega)
    ·rw[take_snoc (by rw[<-hc];simp),aQ]
     rfl
    ·intro b o e;rw[ai (ah e hl)];exact hS b o e
  ·have:=k H (ae.refl H);have h2':decide (w.length<=8)=false:=zzr0 (fun z=>h2 (zzr1 (by omega)));unfold eV at this;rw[h1,h2',kz,xO]at this;exact this
 ·have:=k H (ae.refl H);unfold eV at this;rw[Bool.eq_false_iff.mpr h1,xO]at this;exact this
def bH(ws:Zb):List (d9×V):=ws.foldl (fun acc w=>gL acc (.inr w) (.bl true)) []
theorem gQ(ws:Zb)(w:Str):bH (ws++[w])=gL (bH ws) (.inr w) (.bl true):=by
 unfold bH;rw[rH]
 rfl
theorem yo{κ:Type}[DecidableEq κ](kvs:List (κ×V))(k:κ)(v:V):(gL kvs k v).length<=kvs.length+1:=by
 unfold gL;split
 ·rw[am];omega
 ·rw[bp];exact aN _
theorem kK{α:Type}(P:List α->Prop)(h0:P [])(hs:∀ws w,P ws->P (ws++[w]))(ws:List α):P ws:=by
 have:∀n (ws:List α),ws.length=n->P ws:=by
  intro n
  induction n with
  |zero=>intro ws h;rw[List.length_eq_zero_iff.mp h];exact h0
  |succ n ih =>
   intro ws h;have hne:ws≠[]:=fun z=>by rw[z]at h;cases h
   rw[<-List.dropLast_concat_getLast hne];exact hs _ _ (ih _ (by rw[List.length_dropLast,h];rfl))
 exact this _ ws rfl
theorem mM(ws:Zb):(bH ws).length<=ws.length:=by
 refine kK (fun ws=>(bH ws).length<=ws.length) (aN _) (fun ws w h=>?_) ws;show(bH (ws++[w])).length<=(ws++[w]).length;rw[gQ,bp];have:=yo (bH ws) (.inr w) (.bl true);show _<=ws.length+1;omega
theorem Ah(ws:Zb)(x:Str):d_ (bH ws) (.inr x)=if x∈ws then some (.bl true)else none:=by
 refine kK (fun ws=>d_ (bH ws) (.inr x)=if x∈ws then some (.bl true)else none) rfl (fun ws w h=>?_) ws
 show d_ (bH (ws++[w])) (.inr x)=_;rw[gQ,xT,h];by_cases e:x=w
 ·subst e;rw[if_pos rfl,if_pos (by simp)]
 ·have e1:¬((Sum.inr x:d9)=.inr w):=fun z=>e (by injection z);rw[if_neg e1];by_cases m:x∈ws
  ·rw[if_pos m,if_pos (cJ _ m)]
  ·rw[if_neg m,if_neg (fun z=>by rcases bJ.mp z with z|z;exact m z;exact e (by simpa using z))]
theorem jC(ws:Zb)(x:Str):(d_ (bH ws) (.inr x)).isSome=decide (x∈ws):=by
 rw[Ah];by_cases m:x∈ws
 ·rw[if_pos m,zzr1 m];rfl
 ·rw[if_neg m,zzr0 m];rfl
inductive sp_as_keys(K:Za)(vs:List V)(H:Hp)(Q:VK)(E:XK):Prop
 |mk (l:Addr) (ws:Zb):(vs=[.ref l])->(aA K H l (ws.map V.str))->(ws.length<=1000)->(∀d,H d=none->Q (.ref d) (upd H d (.dK (bH ws))))->sp_as_keys K vs H Q E
theorem zY{K:Za}{vs:List V}{H:Hp}{Q:VK}{E:XK}(h:sp_as_keys K vs H Q E):Cg K (bT Q) (start C3 vs) H:=by
 obtain⟨l,ws,rfl,hl,hz,k⟩:=h;refine fun d hd=>?_;have key:∀kvs,aA K (upd H d (.dK kvs)) l (ws.map V.str):=fun kvs=>(ae.new hd).seq hl;refine⟨_,rfl,l,rfl,⟨_,key _⟩,?_⟩;refine gR (xs:=ws.map V.str) (fun i σ H'=>∃x,σ=[some (.ref l),some (.ref d),x]/\H'=upd H d (.dK (bH (ws.take i)))) ⟨_,rfl,rfl⟩ (fun i σ H' _ ⟨_,_,e⟩=>by rw[e];exact key _) ?_ ?_
 ·rintro i x σ H' hi ⟨y,rfl,rfl⟩;obtain⟨w,hw,rfl⟩:=dE hi;have hlen:(bH (ws.take i)).length<aj:=bC (bj (mM _) (by rw[aP];omega));refine⟨_,rfl,_,rfl,d,_,rfl,.inl ⟨_,.inr w,aa,rfl,hlen,rfl⟩,_,rfl,?_⟩;rw[qU,take_snoc hw,gQ]
 ·rintro σ H' ⟨x,rfl,rfl⟩;rw[am,cZ];exact⟨_,rfl,k d hd⟩
def va(most:Nat):Nat->List Str->List Str->Option Nat
 |_,_,[]=>none
 |i,ahead,n::ns=>if i=most∨n∈ahead∨eV n=false then some i else va most (i+1) (ahead++[n]) ns
def au(names:Zb)(most:Nat)(taken:Zb):Option Nat:=if names=[]then some 0 else va most 0 taken names
def oV:Option Nat->V
 |none=>.non
 |some i=>.int i
inductive sp_first_wrong_name(K:Za)(vs:List V)(H:Hp)(Q:VK)(E:XK):Prop
 |mk (l t:Addr) (names taken:Zb) (most:Nat):(vs=[.ref l,.int most,.ref t])->(aA K H l (names.map V.str))->(aA K H t (taken.map V.str))->(names.length+taken.length<=1000)->((∀w∈names,w.length<=1000))->(∀H',ae H H'->Q (oV (au names most taken)) H')->sp_first_wrong_name K vs H Q E
theorem pQ{K:Za}{H:Hp}{Q:VK}{E:XK}{l:Addr}{ws:Zb}(hl:aA K H l (ws.map V.str))(hz:ws.length<=1000)(k:∀d,H d=none->Q (.ref d) (upd H d (.dK (bH ws)))):sp_as_keys K [.ref l] H Q E:=by
 exact⟨l,ws,rfl,hl,hz,k⟩
theorem CG{H:Hp}{Q:VK}{E:XK}{w:Str}(hz:w.length<=1000)(k:∀H',ae H H'->Q (.bl (eV w)) H'):sp_is_name [.str w] H Q E:=by
 exact⟨w,rfl,hz,k⟩
theorem lZ{K:Za}{vs:List V}{H:Hp}{Q:VK}{E:XK}(h:sp_first_wrong_name K vs H Q E):mC K sp_is_name (sp_as_keys K) (bT Q) (start mU vs) H:=by
 obtain⟨l,t,names,taken,most,rfl,hl,ht,hz,hw,k⟩:=h;refine⟨_,rfl,.inl ⟨l,_,rfl,.inl hl,rfl,_,rfl,?_⟩⟩;by_cases h0:names=[]
 ·subst h0;refine bE ?_;have:=k H (ae.refl H);exact this
 have e0:decide (V.int ((names.map V.str).length:Nat)=V.int 0)=false:=zzr0 (fun z=>h0 (by
  injection z with z;rw[am]at z;exact List.length_eq_zero_iff.mp (by omega)))
 rw[e0];refine bu ?_;have hk:∀H',ae H H'->Q (oV (va most 0 taken names)) H':=by
  unfold au at k;rw[if_neg h0]at k;exact k
 refine⟨_,rfl,pQ ht (by omega) fun d hd=>?_⟩;refine⟨_,rfl,l,rfl,⟨_,(ae.new hd).seq hl⟩,?_⟩;refine eW (xs:=names.map V.str) (fun i σ H'=>∃x y,σ=[some (.ref l),some (.int most),some (.ref t),some (.ref d),x,y]/\ae H H'/\H' d=some (.dK (bH (taken++names.take i)))/\va most i (taken++names.take i) (names.drop i)=va most 0 taken names)
  ⟨_,_,rfl,ae.new hd,by rw[List.take_zero,fD];exact aa,by rw[List.take_zero,fD,mq]⟩ (fun i σ H' _ ⟨_,_,_,hS,_⟩=>hS.seq hl) ?_ ?_
 ·rintro i x σ H' q hi ⟨x4,x5,rfl,hS,hd',hf⟩ hq;obtain⟨w,hw',rfl⟩:=dE hi;have hil:i<names.length:=(db.mp hw').1;have ed:names.drop i=w::names.drop (i+1):=by
   rw[jJ hil];congr 1;exact(db.mp hw').2
  rw[ed]at hf;have hd2:upd H' q (.tup [.int i,.str w]) d=some (.dK (bH (taken++names.take i))):=kp hd' hq;have hS2:ae H (upd H' q (.tup [.int i,.str w])):=hS.trans (ae.new hq);have hww:w.length<=1000:=hw w (cu hw');refine⟨q,_,rfl,b_.of aa,rfl,_,_,rfl,_,_,rfl,rfl,?_⟩;generalize upd H' q (.tup [.int i,.str w])=H2 at hd2 hS2 ⊢;refine⟨_,rfl,_,rfl,rfl,_,rfl,?_⟩;by_cases c1:i=most
  ·have e1:decide (V.int (i:Nat)=V.int (most:Nat))=true:=zzr1 (by rw[c1]);rw[e1];refine bE (bE ?_);refine⟨_,rfl,?_⟩;have:=hk H2 hS2;rw[<-hf]at this;unfold va at this;rw[if_pos (.inl c1)]at this;exact this
  have e1:decide (V.int (i:Nat)=V.int (most:Nat))=false:=zzr0 (fun z=>c1 (by injection z with z;omega));rw[e1];refine bu ?_;refine⟨_,rfl,_,rfl,d,_,rfl,.inl ⟨_,.inr w,.inl hd2,rfl,rfl⟩,_,rfl,?_⟩;rw[jC];by_cases c2:w∈taken++names.take i
  ·rw[zzr1 c2];refine bE (bE ?_);refine⟨_,rfl,?_⟩;have:=hk H2 hS2;rw[<-hf]at this;unfold va at this;rw[if_pos (.inr (.inl c2))]at this;exact this
  rw[zzr0 c2];refine bu ?_;refine⟨_,rfl,CG hww fun H3 hS3=>⟨_,rfl,?_⟩⟩;have hd3:=hS3 _ _ hd2;cases c3:eV w with
  |false =>
   refine bE ?_;refine⟨_,rfl,?_⟩;have:=hk H3 (hS2.trans hS3);rw[<-hf]at this;unfold va at this;rw[if_pos (.inr (.inr c3))]at this;exact this
  |true =>
   refine bu ?_;have hlen:(bH (taken++names.take i)).length<aj:=bC (bj (mM _) (by rw[bp,aP];omega));refine⟨_,rfl,_,rfl,d,_,rfl,.inl ⟨_,.inr w,hd3,rfl,hlen,rfl⟩,_,_,rfl,?_,?_,?_⟩
   ·intro b o e;rw[ai (ah e hd)];exact hS3 _ _ (hS2 _ _ e)
   ·rw[aa,take_snoc hw',<-dA,gQ]
   ·rw[<-hf,take_snoc hw',<-dA]
    conv=>rhs;unfold va
    rw[if_neg];rintro(z|z|z)
    ·exact c1 z
    ·exact c2 z
    ·rw[c3]at z;cases z
 ·rintro σ H' ⟨x,y,rfl,hS,_,hf⟩;rw[am,kA]at hf;have:=hk H' hS;rw[<-hf]at this;exact this
theorem yI{most:Nat}:∀(ns ahead:Zb) (i:Nat),i+ns.length<=most->(ahead++ns).Nodup->(∀w∈ns,j4 w)->va most i ahead ns=none
 |[],_,_,_,_,_=>rfl
 |n::ns,ahead,i,h1,h2,h3=>by
  rw[cw]at h1;unfold va;rw[if_neg]
  ·refine yI ns (ahead++[n]) (i+1) (by omega) (by rw[dA];exact h2) fun w hw=>h3 w (cj _ hw)
  ·rintro(z|z|z)
   ·omega
   ·rw[fG]at h2;exact h2.2.2 n z n (cp) rfl
   ·rw[(h3 n cp).b]at z;cases z
theorem hJ{most:Nat}{ns taken:Zb}(h0:ns≠[])(h1:ns.length<=most)(h2:(taken++ns).Nodup)(h3:∀w∈ns,j4 w):au ns most taken=none:=by
 unfold au;rw[if_neg h0];exact yI ns taken 0 (by omega) h2 h3
theorem aW{n:Nat}(h:n<=9000):n<aj:=vL h (by decide)
def t5(x:Str):TK:=.k (.inr x)
def EY(sg:Zb):TK:=.t (sg.map t5)
def xh(d:aq):TK:=.t [t5 d.a,EY d.sg,t5 d.b]
theorem qZ{x y:Str}(h:t5 x=t5 y):x=y:=by
 unfold t5 at h;injection h with h;injection h
theorem qk:∀{x y:Zb},x.map t5=y.map t5->x=y
 |[],[],_=>rfl
 |[],_::_,h=>by cases h
 |_::_,[],h=>by cases h
 |a::x,b::y,h=>by
  rw[bf,bf]at h;injection h with h1 h2;rw[qZ h1,qk h2]
theorem BD{x y:Zb}(h:EY x=EY y):x=y:=by
 unfold EY at h;injection h with h;exact qk h
theorem GB{x y:aq}(h:xh x=xh y):x=y:=by
 unfold xh at h;injection h with h;injection h with h1 h;injection h with h2 h;injection h with h3 h;cases x;cases y;simp only at *;rw[qZ h1,BD h2,qZ h3]
theorem zp(xs:Zb):TK.depths (xs.map t5)=0:=by
 induction xs with
 |nil=>rfl
 |cons x xs ih=>rw[bf];show max (TK.depth (t5 x)) (TK.depths _)=0;rw[ih];rfl
theorem uK(sg:Zb):(EY sg).depth=1:=by
 show TK.depths (sg.map t5)+1=1;rw[zp]
theorem oX(d:aq):(xh d).depth=2:=by
 show max (TK.depth (t5 d.a)) (max (TK.depth (EY d.sg)) (max (TK.depth (t5 d.b)) 0))+1=2;rw[uK]
 rfl
theorem A8{H:Hp}:∀xs:List Str,TKAts H (xs.map t5) (xs.map V.str)
 |[]=>by show TKAts H [] [];unfold TKAts;rfl
 |x::xs=>by
  rw[bf,bf];unfold TKAts;refine⟨_,_,rfl,?_,A8 xs⟩;unfold t5 ii
  rfl
theorem zq{H:Hp}(x:Str):ii H (t5 x) (.str x):=by unfold t5 ii;rfl
theorem SignAt.tk{H:Hp}{s:Addr}{sg:Zb}(h:SignAt H s sg):ii H (EY sg) (.ref s):=by
 unfold EY ii;exact⟨s,_,rfl,h,A8 _⟩
theorem eU.tk{H:Hp}{t:Addr}{d:aq}(h:eU H t d):ii H (xh d) (.ref t):=by
 obtain⟨s,h1,h2⟩:=h;unfold xh ii;refine⟨t,_,rfl,h1,?_⟩;unfold TKAts;refine⟨_,_,rfl,zq _,?_⟩;unfold TKAts;refine⟨_,_,rfl,SignAt.tk h2,?_⟩;unfold TKAts;refine⟨_,_,rfl,zq _,?_⟩;unfold TKAts
 rfl
section
variable{κ:Type}[DecidableEq κ]
def i7(ks:List κ):List (κ×V):=ks.foldl (fun acc k=>gL acc k (.bl true)) []
theorem jW(ws:List κ)(w:κ):i7 (ws++[w])=gL (i7 ws) w (.bl true):=by
 unfold i7;rw[rH]
 rfl
theorem u7(ws:List κ):(i7 ws).length<=ws.length:=by
 refine kK (fun ws=>(i7 ws).length<=ws.length) (aN _) (fun ws w h=>?_) ws;show(i7 (ws++[w])).length<=(ws++[w]).length;rw[jW,bp];have:=yo (i7 ws) w (.bl true);show _<=ws.length+1;omega
theorem yz(ws:List κ)(x:κ):(d_ (i7 ws) x).isSome=decide (x∈ws):=by
 refine kK (fun ws=>(d_ (i7 ws) x).isSome=decide (x∈ws)) rfl (fun ws w h=>?_) ws;show(d_ (i7 (ws++[w])) x).isSome=_;rw[jW,xT];by_cases e:x=w
 ·subst e;rw[if_pos rfl,zzr1 (by simp)]
  rfl
 ·rw[if_neg e,h];by_cases m:x∈ws
  ·rw[zzr1 m,zzr1 (cJ _ m)]
  ·rw[zzr0 m,zzr0 (fun z=>by rcases bJ.mp z with z|z;exact m z;exact e (by simpa using z))]
end
theorem rh{d:aq}{ds:List aq}:xh d∈ds.map xh↔d∈ds:=by
 constructor
 ·intro h;obtain⟨x,hx,e⟩:=aO.mp h;rw[<-GB e];exact hx
 ·exact rK
def mS(K:Za)(H:Hp)(v:V)(sg:Zb):Prop:=∃s,v=.ref s/\b_ K H s (sg.map V.str)
theorem ae.sqT{K:Za}{H H':Hp}{a:Addr}{xs:List V}(e:ae H H')(h:b_ K H a xs):b_ K H' a xs:=by
 rcases h with(h|⟨o,h⟩)|h
 ·exact .inl (.inl (e _ _ h))
 ·exact .inl (.inr ⟨o,e _ _ h⟩)
 ·exact .inr h
theorem Signs.same{K:Za}{H H':Hp}(e:ae H H'){xs:List V}{sgs:List (List Str)}(h:Paired (mS K H) xs sgs):Paired (mS K H') xs sgs :=
 Paired.mapP h fun _ _ ⟨s,h1,h2⟩=>⟨s,h1,ae.sqT e h2⟩
def ut(sg:Zb):DT:=.t (sg.map aS)
theorem BE{x y:Zb}(h:ut x=ut y):x=y:=by
 unfold ut at h;injection h with h;exact gP h
theorem i9(sg:Zb):(ut sg).depth=1:=by
 show DT.depths (sg.map aS)+1=1;rw[bY]
theorem CK(sgs:List (List Str)):DT.depths (sgs.map ut)<=8:=by
 induction sgs with
 |nil=>exact bR _
 |cons x xs ih=>rw[bf];show max (DT.depth (ut x)) (DT.depths _)<=8;rw[i9];omega
theorem Signs.dIns{K:Za}{H:Hp}:∀{xs:List V}{sgs:List (List Str)},Paired (mS K H) xs sgs->DIns K H (sgs.map ut) xs
 |_,_,.nil=>by show DIns K H [] [];unfold DIns;rfl
 |_,_,.cons ⟨s,e,r⟩ t=>by
  rw[bf];unfold DIns;refine⟨_,_,rfl,?_,Signs.dIns t⟩;rw[e];exact fU r
theorem Bv{d:Zb}{ds:List (List Str)}:ut d∈ds.map ut↔d∈ds:=by
 constructor
 ·intro h;obtain⟨x,hx,e⟩:=aO.mp h;rw[<-BE e];exact hx
 ·exact rK
theorem Paired.app{α β:Type}{R:α->β->Prop}:∀{a:List α}{b:List β}{c:List α}{d:List β},Paired R a b->Paired R c d->Paired R (a++c) (b++d)
 |_,_,_,_,.nil,h=>h
 |_,_,_,_,.cons r t,h=>.cons r (Paired.app t h)
def JE(w:Str):List Str:=[("ask":Str),w]
def Jk(w:Str):List Str:=[("say":Str),w]
def bz(J0 J4:Zb):List (List Str):=J0.map JE++J4.map Jk++[aG]
theorem sH{K:Za}{kw:Str}{σ:L2.St}{H:Hp}{a l:Addr}{ws:Zb}{Q:Hp->Prop}(ha:H a=some (.lst (ws.map V.str)))(hl:H l=none)(hz:ws.length<=1000)
  (k:∀(xs:List V) (H':Hp),Paired (mS K H') xs (ws.map fun w=>[kw,w])->ae H H'->H' l=some (.lst xs)->Q H') :
  lz 1 [] σ (Hs K a) U0 ju (dZ (ba (tC (.str kw)) V0)) H l Q:=by
 refine dL (xs:=ws.map V.str) (fun i vs H'=>Paired (mS K H') vs ((ws.take i).map fun w=>[kw,w])/\ae H H'/\H' l=some (.lst vs))
  ⟨.nil,ae.new hl,aa⟩ (fun i vs H' _ ⟨_,hS,h'⟩=>⟨h',aA.of (hS _ _ ha)⟩) ?_ ?_
 ·rintro vs H' ⟨h1,h2,h3⟩;rw[am,cZ]at h1;exact k vs H' h1 h2 h3
 ·rintro i vs H' x hx hi ⟨h1,h2,h3⟩;obtain⟨w,hw,rfl⟩:=dE hx;refine gN (t7 ?_);refine⟨_,rfl,(by show 2<=aj;decide),fun t ht=>⟨kp h3 ht,?_,u3 hi ⟨?_,?_,aa⟩⟩⟩
  ·rw[Paired.length h1,am,aP];exact bC (by omega)
  ·rw[take_snoc hw,aQ];have hS2:AG (upd H' t (.tup [.str kw,.str w])) (upd (upd H' t (.tup [.str kw,.str w])) l (.lst (vs++[.ref t]))):=jl (kp h3 ht);have hS3:AG H' (upd (upd H' t (.tup [.str kw,.str w])) l (.lst (vs++[.ref t]))):=(ae.kt (ae.new ht)).trans hS2;refine Paired.app (Paired.mapP h1 fun v sg ⟨s,e1,e2⟩=>⟨s,e1,?_⟩) (.cons ⟨t,rfl,b_.of (hS2 _ _ aa)⟩ .nil);rcases e2 with(e2|⟨o,e2⟩)|e2
   ·exact .inl (.inl (hS3 _ _ e2))
   ·refine .inl (.inr ⟨o,?_⟩);rw[ai (fun z=>by rw[z,h3]at e2;cases e2)];exact kp e2 ht
   ·exact .inr e2
  ·intro b o e;rw[ai (ah e hl)];exact kp (h2 _ _ e) ht
inductive sp_door_signs(K:Za)(vs:List V)(H:Hp)(Q:VK)(E:XK):Prop
 |mk (l1 l2:Addr) (J0 J4:Zb):(vs=[.ref l1,.ref l2])->(H l1=some (.lst (J0.map V.str)))->(H l2=some (.lst (J4.map V.str)))->(J0.length<=100)->(J4.length<=100)->(∀(l:Addr) (xs:List V) (H':Hp),Paired (mS K H') xs (bz J0 J4)->ae H H'->H' l=some (.lst xs)->Q (.ref l) H')->sp_door_signs K vs H Q E
theorem uk{K:Za}{st:Addr}(hst:∀H,b_ K H st (aG.map V.str)){vs:List V}{H:Hp}{Q:VK}{E:XK}(h:sp_door_signs K vs H Q E):vY K st (bT Q) (start xB vs) H:=by
 obtain⟨l1,l2,J0,J4,rfl,h1,h2,z1,z2,k⟩:=h;refine⟨_,rfl,l1,rfl,⟨_,aA.of h1⟩,fun a ha=>?_⟩;refine sH h1 ha (by omega) fun xs1 H1 p1 s1 g1=>?_;refine⟨_,rfl,l2,rfl,⟨_,aA.of (s1 _ _ h2)⟩,fun b hb=>?_⟩;refine sH (s1 _ _ h2) hb (by omega) fun xs2 H2 p2 s2 g2=>?_;have len1:xs1.length<=100:=by rw[Paired.length p1,am];exact z1
 have len2:xs2.length<=100:=by rw[Paired.length p2,am];exact z2
 refine⟨a,b,xs1,xs2,rfl,rfl,s2 _ _ g1,g2,ei (bC (by omega)),fun c hc=>?_⟩;refine⟨(by show 1<=aj;decide),fun d hd=>?_⟩;refine⟨c,d,_,_,rfl,rfl,kp aa hd,aa,?_,fun e he=>k e _ _ ?_ ?_ aa⟩
 ·rw[bp];show _+1<=aj;exact ei (bC (by omega))
 ·have sx:ae H2 (upd (upd (upd H2 c (.lst (xs1++xs2))) d (.lst [.ref st])) e (.lst (xs1++xs2++[.ref st]))):=((ae.new hc).trans (ae.new hd)).trans (ae.new he);exact Paired.app (Paired.app (Signs.same (s2.trans sx) p1) (Signs.same sx p2)) (.cons ⟨st,rfl,hst _⟩ .nil)
 ·exact(((s1.trans s2).trans (ae.new hc)).trans (ae.new hd)).trans (ae.new he)
def t6(J5:Zb)(sgs:List (List Str)):Nat->List aq->List aq->Option Nat
 |_,_,[]=>none
 |i,ahead,d::ds=>if i=2000∨d∈ahead∨d.a∉J5∨d.sg∉sgs∨d.b∉J5 then some i else t6 J5 sgs (i+1) (ahead++[d]) ds
inductive sp_first_wrong_door(K:Za)(vs:List V)(H:Hp)(Q:VK)(E:XK):Prop
 |mk (l l3 sl:Addr) (ts:Ze) (ds:List aq) (J5:Zb) (xs:List V) (sgs:List (List Str)):(vs=[.ref l,.ref l3,.ref sl])->(H l=some (.lst (ts.map V.ref)))->(dg H ts ds)->(H l3=some (.lst (J5.map V.str)))->(J5.length<=1000)->(H sl=some (.lst xs))->(Paired (mS K H) xs sgs)->(ds.length<=9000)->(∀H',ae H H'->Q (oV (t6 J5 sgs 0 [] ds)) H')->sp_first_wrong_door K vs H Q E
theorem dH{ws:Ze}{i:Nat}{x:V}(h:(ws.map V.ref)[i]?=some x):∃w,ws[i]?=some w/\x=.ref w:=by
 rw[cb]at h;cases q:ws[i]? with
 |none=>rw[q]at h;cases h
 |some r=>rw[q]at h;exact⟨r,rfl,(dX h).symm⟩
theorem l5{K:Za}{vs:List V}{H:Hp}{Q:VK}{E:XK}(h:sp_first_wrong_door K vs H Q E):mD K (sp_as_keys K) (bT Q) (start mV vs) H:=by
 obtain⟨l,l3,sl,ts,ds,J5,xs,sgs,rfl,hl,hds,h3,hr,hsl,hsg,hz,k⟩:=h;refine⟨_,rfl,pQ (aA.of h3) hr fun d hd=>?_⟩;refine fun e he=>?_;have hS0:ae H (upd (upd H d (.dK (bH J5))) e (.dT [])):=(ae.new hd).trans (ae.new he);have heH:H e=none:=(ae.new hd).free he;refine⟨_,rfl,l,rfl,⟨_,aA.of (hS0 _ _ hl)⟩,?_⟩;refine eW (xs:=ts.map V.ref) (fun i σ H'=>∃x y,σ=[some (.ref l),some (.ref l3),some (.ref sl),some (.ref d),some (.ref e),x,y]/\ae H H'/\H' d=some (.dK (bH J5))/\H' e=some (.dT (i7 ((ds.take i).map xh)))/\t6 J5 sgs i (ds.take i) (ds.drop i)=t6 J5 sgs 0 [] ds)
  ⟨_,_,rfl,hS0,kp aa he,aa,rfl⟩ (fun i σ H' _ ⟨_,_,_,hS,_⟩=>aA.of (hS _ _ hl)) ?_ ?_
 ·rintro i x σ H' q hi ⟨x5,x6,rfl,hS,hd',he',hf⟩ hq;obtain⟨t,ht,rfl⟩:=dH hi;obtain⟨dr,hdr,hat⟩:=Paired.getL hds ht;have hil:i<ds.length:=(db.mp hdr).1;have ed:ds.drop i=dr::ds.drop (i+1):=by
   rw[jJ hil];congr 1;exact(db.mp hdr).2
  rw[ed]at hf;have hS2:ae H (upd H' q (.tup [.int i,.ref t])):=hS.trans (ae.new hq);have hd2:upd H' q (.tup [.int i,.ref t]) d=_:=kp hd' hq;have he2:upd H' q (.tup [.int i,.ref t]) e=_:=kp he' hq;refine⟨q,_,rfl,b_.of aa,rfl,_,_,rfl,_,_,rfl,rfl,?_⟩;generalize upd H' q (.tup [.int i,.ref t])=H2 at hd2 he2 hS2 ⊢;have hat2:=hat.kt (ae.kt hS2);have hin:qN K H2 (xh dr) (.ref t):=ii.isIn 8 (by rw[oX];decide) hat2.tk;have hd8:(xh dr).depth<=8:=by rw[oX];decide
  obtain⟨s,ht2,hs2⟩:=hat2;have bad:(i=2000∨dr∈ds.take i∨dr.a∉J5∨dr.sg∉sgs∨dr.b∉J5)->Q (.int i) H2:=by
   intro c;have:=k H2 hS2;rw[<-hf]at this;unfold t6 at this;rw[if_pos c]at this;exact this
  refine⟨_,rfl,rfl,_,rfl,?_⟩;by_cases c1:i=2000
  ·have e1:decide (V.int (i:Nat)=V.int 2000)=true:=zzr1 (by rw[c1];rfl);rw[e1];exact bE (bE ⟨_,rfl,bad (.inl c1)⟩)
  have e1:decide (V.int (i:Nat)=V.int 2000)=false:=zzr0 (fun z=>c1 (by injection z with z;omega));rw[e1];refine bu ?_;refine⟨_,rfl,_,rfl,e,_,rfl,.inr ⟨_,xh dr,t,.inl he2,rfl,hin,hd8,rfl⟩,_,rfl,?_⟩;rw[yz];by_cases c2:dr∈ds.take i
  ·rw[zzr1 (rh.mpr c2)];exact bE ⟨_,rfl,bad (.inr (.inl c2))⟩
  rw[zzr0 (fun z=>c2 (rh.mp z))];refine bu ?_;refine⟨_,rfl,.inr (.inl ⟨t,_,0,_,rfl,rfl,b_.of ht2,rfl,_,rfl,d,_,rfl,.inl ⟨_,.inr dr.a,.inl hd2,rfl,rfl⟩,_,rfl,?_⟩)⟩;rw[jC];by_cases c3:dr.a∈J5;rotate_left
  ·rw[zzr0 c3];exact bE (bE ⟨_,rfl,bad (.inr (.inr (.inl c3)))⟩)
  rw[zzr1 c3];refine bu ?_;refine⟨_,rfl,.inr (.inl ⟨t,_,1,_,rfl,rfl,b_.of ht2,rfl,_,rfl,ut dr.sg,sgs.map ut,sl,xs,fU (b_.of hs2),rfl,.inl (aA.of (hS2 _ _ hsl)),Signs.dIns (Signs.same hS2 hsg),by rw[i9];decide,CK _,_,rfl,?_⟩)⟩;rw[if_pos rfl];by_cases c4:dr.sg∈sgs;rotate_left
  ·rw[zzr0 (fun z=>c4 (Bv.mp z))];exact bE (bE ⟨_,rfl,bad (.inr (.inr (.inr (.inl c4))))⟩)
  rw[zzr1 (Bv.mpr c4)];refine bu ?_;refine⟨_,rfl,.inr (.inl ⟨t,_,2,_,rfl,rfl,b_.of ht2,rfl,_,rfl,d,_,rfl,.inl ⟨_,.inr dr.b,.inl hd2,rfl,rfl⟩,_,rfl,?_⟩)⟩;rw[jC];by_cases c5:dr.b∈J5;rotate_left
  ·rw[zzr0 c5];exact bE ⟨_,rfl,bad (.inr (.inr (.inr (.inr c5))))⟩
  rw[zzr1 c5];refine bu ?_;have hlen:(i7 ((ds.take i).map xh)).length<aj:=aW (bj (u7 _) (by rw[am,aP];omega));refine⟨_,rfl,_,rfl,e,_,rfl,.inr ⟨_,xh dr,t,he2,rfl,eU.tk ⟨s,ht2,hs2⟩,hd8,hlen,rfl⟩,_,_,rfl,?_,?_,?_,?_⟩
  ·intro b o q;rw[ai (ah q heH)];exact hS2 _ _ q
  ·rw[ai (fun z=>by rw[z,he2]at hd2;cases hd2)];exact hd2
  ·rw[aa,take_snoc hdr,aQ];exact congrArg (fun z=>some (HO.dT z)) (jW _ _).symm
  ·rw[<-hf,take_snoc hdr]
   conv=>rhs;unfold t6
   rw[if_neg];rintro(z|z|z|z|z)
   ·exact c1 z
   ·exact c2 z
   ·exact z c3
   ·exact z c4
   ·exact z c5
 ·rintro σ H' ⟨x,y,rfl,hS,_,_,hf⟩;have:=k H' hS;rw[<-hf,am,Paired.length hds,kA]at this;exact this
theorem yJ{J5:Zb}{sgs:List (List Str)}:∀(ds ahead:List aq) (i:Nat),i+ds.length<=2000->(ahead++ds).Nodup->(∀d∈ds,d.a∈J5/\d.sg∈sgs/\d.b∈J5)->t6 J5 sgs i ahead ds=none
 |[],_,_,_,_,_=>rfl
 |n::ns,ahead,i,h1,h2,h3=>by
  rw[cw]at h1;unfold t6;rw[if_neg]
  ·refine yJ ns (ahead++[n]) (i+1) (by omega) (by rw[dA];exact h2) fun w hw=>h3 w (cj _ hw)
  ·have:=h3 n cp;rintro(z|z|z|z|z)
   ·omega
   ·rw[fG]at h2;exact h2.2.2 n z n (cp) rfl
   ·exact z this.1
   ·exact z this.2.1
   ·exact z this.2.2
inductive sp_need_none (vs:List V)(H:Hp)(Q:VK)(E:XK):Prop
 |mk (x:V):(vs=[x,.non])->(Q .non H)->sp_need_none  vs H Q E
structure Lists(H:Hp)(l1 l2 l3 l4:Addr)(ts:Ze)(J0 J4 J5:Zb)(ds:List aq):Prop where
 a1:H l1=some (.lst (J0.map V.str))
 a2:H l2=some (.lst (J4.map V.str))
 a3:H l3=some (.lst (J5.map V.str))
 a4:H l4=some (.lst (ts.map V.ref))
 ds:dg H ts ds
theorem Lists.same{H H':Hp}{l1 l2 l3 l4:Addr}{ts:Ze}{J0 J4 J5:Zb}{ds:List aq}(h:Lists H l1 l2 l3 l4 ts J0 J4 J5 ds)(e:ae H H'):Lists H' l1 l2 l3 l4 ts J0 J4 J5 ds :=
 ⟨e _ _ h.a1,e _ _ h.a2,e _ _ h.a3,e _ _ h.a4,h.ds.kt (ae.kt e)⟩
inductive sp_need_parts (vs:List V)(H:Hp)(Q:VK)(E:XK):Prop
 |mk (l1 l2 l3 l4:Addr) (ts:Ze) (J0 J4 J5:Zb) (ds:List aq):(vs=[.ref l1,.ref l2,.ref l3,.ref l4])->(Lists H l1 l2 l3 l4 ts J0 J4 J5 ds)->(cg J0 J4 J5 ds)->(∀H',ae H H'->Q .non H')->sp_need_parts  vs H Q E
theorem pA{ws:Zb}(h:eJ ws):∀w∈ws,w.length<=1000:=fun w hw=>bj (h.2 w hw).hi (by decide)
section
variable{κ ι:Type}[DecidableEq κ]{e:ι->κ}
def dP(e:ι->κ)(ps:List (ι×Addr)):List (κ×V):=ps.map fun x=>(e x.1,V.ref x.2)
theorem n5(inj:∀x y,e x=e y->x=y){i:ι}:∀{ps:List (ι×Addr)},i∉ps.map (·.1)->d_ (dP e ps) (e i)=none
 |[],_=>rfl
 |x::ps,h=>by
  rw[bf,bw]at h;show d_ ((e x.1,V.ref x.2)::dP e ps) (e i)=none;rw[dB (fun z=>h (.inl (inj _ _ z).symm))];exact n5 inj (fun z=>h (.inr z))
theorem fQ(inj:∀x y,e x=e y->x=y){i:ι}{a:Addr}:∀{ps:List (ι×Addr)},(ps.map (·.1)).Nodup->(i,a)∈ps->d_ (dP e ps) (e i)=some (.ref a)
 |[],_,h=>by cases h
 |x::ps,nd,h=>by
  rw[bf,ji]at nd;show d_ ((e x.1,V.ref x.2)::dP e ps) (e i)=_;rcases bw.mp h with h|h
  ·rw[<-h];exact dY rfl
  ·rw[dB (fun z=>nd.1 (by rw[inj _ _ z];exact aO.mpr ⟨_,h,rfl⟩))];exact fQ inj nd.2 h
theorem u5(ps:List (ι×Addr))(i:ι)(a:Addr):dP e (ps++[(i,a)])=dP e ps++[(e i,.ref a)]:=by
 unfold dP;rw[aQ]
 rfl
end
structure DL{ι:Type}(H0 H:Hp)(d:Addr)(ps:List (ι×Addr)):Prop where
 nd:(ps.map (·.1)).Nodup
 na:(ps.map (·.2)).Nodup
 fr:∀x∈ps,H0 x.2=none
 frd:H0 d=none
 ned:∀x∈ps,x.2≠d
 same:ae H0 H
theorem DL.snoc{ι:Type}{H0 H H':Hp}{d:Addr}{ps:List (ι×Addr)}{i:ι}{a:Addr}(h:DL H0 H d ps)(hi:i∉ps.map (·.1))(ha:∀x∈ps,x.2≠a)(fr:H0 a=none)(nd:a≠d)(s:ae H0 H'):DL H0 H' d (ps++[(i,a)]):=by
 refine⟨?_,?_,?_,h.frd,?_,s⟩
 ·rw[aQ,fG];refine⟨h.nd,by simp,fun x hx y hy e=>?_⟩;have:y=i:=by simpa using hy
  exact hi (by rw[<-this,<-e];exact hx)
 ·rw[aQ,fG];refine⟨h.na,by simp,fun x hx y hy e=>?_⟩;have:y=a:=by simpa using hy
  obtain⟨z,hz,rfl⟩:=aO.mp hx;exact ha z hz (e.trans this)
 ·intro x hx;rcases bJ.mp hx with hx|hx
  ·exact h.fr x hx
  ·have:x=(i,a):=by simpa using hx
   rw[this];exact fr
 ·intro x hx;rcases bJ.mp hx with hx|hx
  ·exact h.ned x hx
  ·have:x=(i,a):=by simpa using hx
   rw[this];exact nd
theorem EE{ι:Type}:∀{ps:List (ι×Addr)},(ps.map (·.2)).Nodup->∀{x y:ι×Addr},x∈ps->y∈ps->x.2=y.2->x=y
 |[],_,x,_,h,_,_=>by cases h
 |p::ps,nd,x,y,hx,hy,e=>by
  rw[bf,ji]at nd;rcases bw.mp hx with hx'|hx'<;>rcases bw.mp hy with hy'|hy'
  ·rw[hx',hy']
  ·exact absurd (aO.mpr ⟨y,hy',by rw[<-e,hx']⟩) nd.1
  ·exact absurd (aO.mpr ⟨x,hx',by rw[e,hy']⟩) nd.1
  ·exact EE nd.2 hx' hy' e
theorem jX:∀x y:Str,(Sum.inr x:d9)=Sum.inr y->x=y:=fun x y h=>by injection h
def cD(ds:List aq)(r:Str):List aq:=ds.filter fun d=>decide (d.a=r)
inductive sp_doors_by_start (vs:List V)(H:Hp)(Q:VK)(E:XK):Prop
 |mk (l3 l4:Addr) (ts:Ze) (J5:Zb) (ds:List aq):(vs=[.ref l3,.ref l4])->(H l3=some (.lst (J5.map V.str)))->(H l4=some (.lst (ts.map V.ref)))->(dg H ts ds)->(J5.Nodup)->(J5.length<=1000)->(ds.length<=9000)->((∀d∈ds,d.a∈J5))->(∀(d:Addr) (ps:List (Str×Addr)) (H':Hp),ps.map (·.1)=J5->H' d=some (.dK (dP Sum.inr ps))->(∀x∈ps,∃us,H' x.2=some (.lst (us.map V.ref))/\dg H' us (cD ds x.1))->ae H H'->Q (.ref d) H')->sp_doors_by_start  vs H Q E
theorem nO{K:Za}{vs:List V}{H:Hp}{Q:VK}{E:XK}(h:sp_doors_by_start vs H Q E):o6 K (bT Q) (start pU vs) H:=by
 obtain⟨l3,l4,ts,J5,ds,rfl,h3,h4,hds,nod,hz,hz2,hin,k⟩:=h;refine fun d hd=>?_;refine⟨_,rfl,l3,rfl,⟨_,aA.of (kp h3 hd)⟩,?_⟩;refine gR (xs:=J5.map V.str) (fun i σ H'=>∃x y,σ=[some (.ref l3),some (.ref l4),some (.ref d),x,y]/\∃ps:List (Str×Addr),ps.map (·.1)=J5.take i/\H' d=some (.dK (dP Sum.inr ps))/\DL H H' d ps/\∀x∈ps,H' x.2=some (.lst []))
  ⟨_,_,rfl,[],rfl,aa,⟨by simp,by simp,by simp,hd,by simp,ae.new hd⟩,by simp⟩ (fun i σ H' _ ⟨_,_,_,_,_,_,D,_⟩=>aA.of (D.same _ _ h3)) ?_ ?_
 ·rintro i x σ H' hi ⟨x3,x4,rfl,ps,hps,hd',D,hls⟩;obtain⟨w,hw,rfl⟩:=dE hi;have hnew:w∉ps.map (·.1):=by
   rw[hps];intro z;have:=nod;rw[<-rJ (i+1) J5,take_snoc hw,fG]at this;have:=this.1;rw[fG]at this;exact this.2.2 w z w (by simp) rfl
  refine⟨(by show 0<=aj;decide),fun a ha=>?_⟩;have hlen:(dP (Sum.inr:Str->d9) ps).length<aj:=bC (by
   unfold dP;rw[am,<-am (f:=(·.1)) (as:=ps),hps,aP];omega)
  have haH:H a=none:=D.same.free ha;have nda:a≠d:=(ah hd' ha).symm;have hneA:∀x∈ps,x.2≠a:=fun x hx=>ah (hls x hx) ha;refine⟨_,rfl,_,rfl,d,_,rfl,.inl ⟨_,.inr w,kp hd' ha,rfl,hlen,rfl⟩,_,_,rfl,ps++[(w,a)],?_,?_,?_,?_⟩
  ·rw[aQ,hps,take_snoc hw];rfl
  ·rw[aa,yn _ (n5 jX hnew),u5]
  ·refine D.snoc hnew hneA haH nda ?_;intro b o q;rw[ai (ah q hd)];exact kp (D.same _ _ q) ha
  ·intro x hx;rcases bJ.mp hx with hx|hx
   ·rw[ai (D.ned x hx)];exact kp (hls x hx) ha
   ·have:x=(w,a):=by simpa using hx
    rw[this,ai nda];exact aa
 ·rintro σ H1 ⟨x3,x4,rfl,ps,hps,hd1,D1,hls⟩;rw[am,cZ]at hps;refine⟨_,rfl,l4,rfl,⟨_,aA.of (D1.same _ _ h4)⟩,?_⟩;refine gR (xs:=ts.map V.ref) (fun i σ H'=>∃x4,σ=[some (.ref l3),some (.ref l4),some (.ref d),x3,x4]/\H' d=some (.dK (dP Sum.inr ps))/\DL H H' d ps/\∀x∈ps,∃us,H' x.2=some (.lst (us.map V.ref))/\dg H' us (cD (ds.take i) x.1))
   ⟨_,rfl,hd1,D1,fun x hx=>⟨[],hls x hx,.nil⟩⟩ (fun i σ H' _ ⟨_,_,_,D,_⟩=>aA.of (D.same _ _ h4)) ?_ ?_
  ·rintro i x σ H' hi ⟨x4,rfl,hd',D,hls⟩;obtain⟨t,ht,rfl⟩:=dH hi;obtain⟨dr,hdr,hat⟩:=Paired.getL hds ht;have hat':=hat.kt (ae.kt D.same);have hat2:=hat';obtain⟨s,ht2,hs2⟩:=hat';have hmem:dr.a∈ps.map (·.1):=by rw[hps];exact hin dr (cu hdr)
   obtain⟨⟨r,a⟩,hra,er⟩:=aO.mp hmem;obtain rfl:r=dr.a:=er;obtain⟨us,hus,hdo⟩:=hls _ hra;have hil:i<ds.length:=(db.mp hdr).1;have hlu:us.length<=9000:=by
    rw[Paired.length hdo];refine bj (jG _ _) ?_;rw[aP];omega
   have KT:AG H' (upd H' a (.lst (us.map V.ref++[.ref t]))):=jl hus;refine⟨_,rfl,_,rfl,.inr (.inl ⟨t,_,0,_,rfl,rfl,b_.of ht2,rfl,d,.ref a,rfl,.inl ⟨_,.inr dr.a,.inl hd',rfl,(fQ jX D.nd hra).symm⟩,.inl ⟨rfl,_,aA.of hus⟩,_,rfl,a,_,_,rfl,rfl,hus,?_,_,rfl,?_,?_,?_⟩)⟩
   ·rw[am];exact aW hlu
   ·rw[ai (D.ned _ hra).symm];exact hd'
   ·refine⟨D.nd,D.na,D.fr,D.frd,D.ned,fun b o q=>?_⟩;rw[ai (ah q (D.fr _ hra))];exact D.same _ _ q
   ·intro x hx;have hfl:∀r',cD (ds.take (i+1)) r'=cD (ds.take i) r'++(if dr.a=r' then[dr]else[]):=by
     intro r';unfold cD;rw[take_snoc hdr,rG];congr 1;by_cases c:dr.a=r'
     ·rw[if_pos c];simp[c]
     ·rw[if_neg c];simp[c]
    by_cases c:x.2=a
    ·have ex:=EE D.na hx hra c;subst ex;refine⟨us++[t],?_,?_⟩
     ·show upd H' a _ a=_;rw[aa,aQ];rfl
     ·rw[hfl];show dg _ _ (cD (ds.take i) dr.a++(if dr.a=dr.a then[dr]else[]))
      rw[if_pos rfl];exact Paired.app (hdo.kt KT) (.cons (hat2.kt KT) .nil)
    ·obtain⟨us',h1,h2⟩:=hls x hx;have hne:¬(dr.a=x.1):=fun z=>by
      have e1:=fQ (e:=(Sum.inr:Str->d9)) jX D.nd hra;have e2:=fQ (e:=(Sum.inr:Str->d9)) (i:=x.1) (a:=x.2) jX D.nd hx;rw[<-z,e1]at e2;injection e2 with e2;injection e2 with e2;exact c e2.symm
     refine⟨us',by rw[ai c];exact h1,?_⟩;rw[hfl,if_neg hne,fD];exact h2.kt KT
  ·rintro σ H' ⟨x4,rfl,hd',D,hls⟩;rw[am,Paired.length hds,cZ]at hls;exact⟨_,rfl,k d ps H' hps hd' hls D.same⟩
def yE(d:aq):Bool:=match d.sg with
 |s::_=>decide (s=("ask":Str))
 |[]=>false
inductive sp_has_asks_alone (vs:List V)(H:Hp)(Q:VK)(E:XK):Prop
 |mk (a:Addr) (us:Ze) (ds:List aq):(vs=[.ref a])->(H a=some (.lst (us.map V.ref)))->(dg H us ds)->(ds.length<=9000)->((∀d∈ds,d.sg≠[]))->(∀H',ae H H'->Q (.bl (ds.all yE)) H')->sp_has_asks_alone  vs H Q E
theorem nN{K:Za}{vs:List V}{H:Hp}{Q:VK}{E:XK}(h:sp_has_asks_alone vs H Q E):o5 K (bT Q) (start pT vs) H:=by
 obtain⟨a,us,ds,rfl,ha,hds,hz,hne,k⟩:=h;refine⟨_,rfl,a,rfl,⟨_,aA.of ha⟩,fun l hl=>?_⟩;refine dL (xs:=us.map V.ref) (fun i vs H'=>vs=(ds.take i).map (fun d=>V.bl (yE d))/\ae H H'/\H' l=some (.lst vs))
  ⟨rfl,ae.new hl,aa⟩ (fun i vs H' _ ⟨_,hS,h'⟩=>⟨h',aA.of (hS _ _ ha)⟩) ?_ ?_
 ·rintro vs H' ⟨rfl,hS,h'⟩;rw[am,Paired.length hds,cZ]at h';refine⟨l,ds.map yE,rfl,aA.of (by rw[h',dR];rfl),?_⟩;rw[mn];exact k H' hS
 ·rintro i vs H' x hx hi ⟨rfl,hS,h'⟩;obtain⟨t,ht,rfl⟩:=dH hx;obtain⟨dr,hdr,hat⟩:=Paired.getL hds ht;obtain⟨s,ht2,hs2⟩:=hat.kt (ae.kt hS);have hmem:=cu hdr;obtain⟨s0,rest,hsg⟩:∃s0 rest,dr.sg=s0::rest:=by
   cases q:dr.sg with
   |nil=>exact absurd q (hne dr hmem)
   |cons x y=>exact⟨x,y,rfl⟩
  unfold SignAt at hs2;rw[hsg]at hs2;refine gN (t7 ?_);refine⟨_,rfl,.inr (.inl ⟨t,_,1,_,rfl,rfl,b_.of ht2,rfl,.inr (.inl ⟨s,_,0,.str s0,rfl,rfl,b_.of hs2,cf (j:=0) rfl,rfl,h',?_,u3 hi ⟨?_,?_,aa⟩⟩)⟩)⟩
  ·rw[am,aP];exact aW (by omega)
  ·rw[take_snoc hdr,aQ];congr 1;show[V.bl _]=[V.bl _];congr 2;unfold yE;rw[hsg];show decide (V.str s0=V.str _)=decide (s0=_);by_cases c:s0=("ask":Str)
   ·rw[zzr1 c,zzr1 (by rw[c])]
   ·rw[zzr0 c,zzr0 (fun z=>c (by injection z))]
  ·intro b o e;rw[ai (ah e hl)];exact hS _ _ e
def xI(x:Str×List Str):TK:=.t [t5 x.1,EY x.2]
theorem jU:∀x y:Str×List Str,xI x=xI y->x=y:=by
 intro x y h;unfold xI at h;injection h with h;injection h with h1 h;injection h with h2 h;cases x;cases y;simp only at *;rw[qZ h1,BD h2]
theorem uO(x:Str×List Str):(xI x).depth<=8:=by
 show max (TK.depth (t5 x.1)) (max (TK.depth (EY x.2)) 0)+1<=8;rw[uK];show max 0 (max 1 0)+1<=8
 decide
def cN(ds:List aq)(x:Str×List Str):List Str:=(ds.filter fun d=>decide (d.a=x.1/\d.sg=x.2)).map (·.b)
theorem wQ(ds:List aq)(d:aq)(x:Str×List Str):cN (ds++[d]) x=cN ds x++(if(d.a,d.sg)=x then[d.b]else[]):=by
 unfold cN;rw[rG,aQ];congr 1;by_cases c:(d.a,d.sg)=x
 ·subst c;simp
 ·rw[if_neg c];have:¬(d.a=x.1/\d.sg=x.2):=fun z=>c (by cases x;simp only at z;rw[z.1,z.2]);simp[List.filter_cons];intro h1 h2;exact this ⟨h1,h2⟩
theorem qo{ds:List aq}{x:Str×List Str}(h:∀d∈ds,(d.a,d.sg)≠x):cN ds x=[]:=by
 unfold cN;rw[rE,List.filter_eq_nil_iff];intro d hd;have:¬(d.a=x.1/\d.sg=x.2):=fun z=>h d hd (by cases x;simp only at z;rw[z.1,z.2]);simp;intro h1 h2;exact this ⟨h1,h2⟩
theorem lf{ds:List aq}{x:Str×List Str}{b:Str}:b∈cN ds x↔(⟨x.1,x.2,b⟩:aq)∈ds:=by
 unfold cN;rw[aO];constructor
 ·rintro⟨d,hd,rfl⟩;rw[ir]at hd;obtain⟨h1,h2⟩:=hd;obtain⟨h3,h4⟩:=of_decide_eq_true h2;cases d;simp only at h3 h4;rw[<-h3,<-h4];exact h1
 ·intro h;exact⟨_,ir.mpr ⟨h,zzr1 ⟨rfl,rfl⟩⟩,rfl⟩
structure ij(H:Hp)(g:Addr)(ps:List ((Str×List Str)×Addr))(ds:List aq):Prop where
 nd:(ps.map (·.1)).Nodup
 g:H g=some (.dT (dP xI ps))
 ls:∀x∈ps,H x.2=some (.lst ((cN ds x.1).map V.str))
 all:∀d∈ds,(d.a,d.sg)∈ps.map (·.1)
theorem ij.same{H H':Hp}{g:Addr}{ps:List ((Str×List Str)×Addr)}{ds:List aq}(h:ij H g ps ds)(s:ae H H'):ij H' g ps ds:=⟨h.nd,s _ _ h.g,fun x hx=>s _ _ (h.ls x hx),h.all⟩
inductive kM (vs:List V)(H:Hp)(Q:VK)(E:XK):Prop
 |mk (l4:Addr) (ts:Ze) (ds:List aq):(vs=[.ref l4])->(H l4=some (.lst (ts.map V.ref)))->(dg H ts ds)->(ds.length<=9000)->(∀(g:Addr) (ps:List ((Str×List Str)×Addr)) (H':Hp),ij H' g ps ds->ae H H'->Q (.ref g) H')->kM  vs H Q E
theorem iJ{K:Za}{vs:List V}{H:Hp}{Q:VK}{E:XK}(h:kM vs H Q E):iU K (bT Q) (start iV vs) H:=by
 obtain⟨l4,ts,ds,rfl,h4,hds,hz,k⟩:=h;refine fun g hg=>?_;refine⟨_,rfl,l4,rfl,⟨_,aA.of (kp h4 hg)⟩,?_⟩;refine gR (xs:=ts.map V.ref) (fun i σ H'=>∃x y z,σ=[some (.ref l4),some (.ref g),x,y,z]/\∃ps:List ((Str×List Str)×Addr),DL H H' g ps/\H' g=some (.dT (dP xI ps))/\ps.length<=i/\(∀x∈ps,H' x.2=some (.lst ((cN (ds.take i) x.1).map V.str)))/\∀d∈ds.take i,(d.a,d.sg)∈ps.map (·.1))
  ⟨_,_,_,rfl,[],⟨by simp,by simp,by simp,hg,by simp,ae.new hg⟩,aa,by simp,by simp,by simp⟩ (fun i σ H' _ ⟨_,_,_,_,_,D,_⟩=>aA.of (D.same _ _ h4)) ?_ ?_
 ·rintro i x σ H' hi ⟨x2,x3,x4,rfl,ps,D,hg',hlen,hls,hall⟩;obtain⟨t,ht,rfl⟩:=dH hi;obtain⟨dr,hdr,hat⟩:=Paired.getL hds ht;have hil:i<ds.length:=(db.mp hdr).1;obtain⟨s,ht2,hs2⟩:=hat.kt (ae.kt D.same);refine⟨t,_,rfl,b_.of ht2,rfl,_,_,rfl,_,_,rfl,_,_,rfl,rfl,?_⟩;refine⟨_,rfl,.inr (.inr (.inl ⟨rfl,.inr ⟨_,hg'⟩⟩)),_,rfl,_,rfl,(by show 2<=aj;decide),fun kt hkt=>⟨(by show 0<=aj;decide),fun nl hnl=>?_⟩⟩;have S2:ae H' (upd (upd H' kt (.tup [.str dr.a,.ref s])) nl (.lst [])):=(ae.new hkt).trans (ae.new hnl);have hkt2:upd (upd H' kt (.tup [.str dr.a,.ref s])) nl (.lst []) kt=some (.tup [.str dr.a,.ref s]):=kp aa hnl;have hnl2:upd (upd H' kt (.tup [.str dr.a,.ref s])) nl (.lst []) nl=some (.lst []):=aa;have hnlH':H' nl=none:=(ae.new hkt).free hnl;generalize upd (upd H' kt (.tup [.str dr.a,.ref s])) nl (.lst [])=H2 at S2 hkt2 hnl2 ⊢;have htk:ii H2 (xI (dr.a,dr.sg)) (.ref kt):=by
   unfold xI ii;refine⟨kt,_,rfl,hkt2,?_⟩;unfold TKAts;refine⟨_,_,rfl,zq _,?_⟩;unfold TKAts;refine⟨_,_,rfl,SignAt.tk (S2 _ _ hs2),?_⟩;unfold TKAts
   rfl
  have hlk:(dP xI ps).length<aj:=aW (by unfold dP;rw[am];omega);have hgo:∀x,cN (ds.take (i+1)) x=cN (ds.take i) x++(if(dr.a,dr.sg)=x then[dr.b]else[]):=fun x=>by rw[take_snoc hdr,wQ]
  have hgl:∀x,(cN (ds.take i) x).length<=9000:=fun x=>by
   unfold cN;rw[am];refine bj (jG _ _) ?_;rw[aP];omega
  refine⟨g,kt,_,xI (dr.a,dr.sg),.ref nl,rfl,rfl,S2 _ _ hg',htk,uO _,hlk,fun v hv=>?_,fun hv=>?_⟩
  ·-- there already
   have hmem:(dr.a,dr.sg)∈ps.map (·.1):=by
    refine Classical.byContradiction fun z=>?_;rw[n5 jU z]at hv;cases hv
   obtain⟨⟨r,a⟩,hra,er⟩:=aO.mp hmem;obtain rfl:r=(dr.a,dr.sg):=er;rw[fQ jU D.nd hra]at hv;injection hv with hv;subst hv;have hla:=S2 _ _ (hls _ hra);refine⟨.inl ⟨rfl,_,aA.of hla⟩,_,rfl,a,_,_,rfl,rfl,hla,by rw[am];exact aW (hgl _),_,_,_,rfl,ps,⟨D.nd,D.na,D.fr,D.frd,D.ned,fun b o q=>?_⟩,?_,by omega,?_,?_⟩
   ·rw[ai (ah q (D.fr _ hra))];exact S2 _ _ (D.same _ _ q)
   ·rw[ai (D.ned _ hra).symm];exact S2 _ _ hg'
   ·intro x hx;by_cases c:x.2=a
    ·have ex:=EE D.na hx hra c;subst ex;show upd H2 a _ a=_;rw[aa,hgo,if_pos rfl,aQ];rfl
    ·have hne:¬((dr.a,dr.sg)=x.1):=fun z=>by
      have e1:=fQ (e:=xI) jU D.nd hra;have e2:=fQ (e:=xI) (i:=x.1) (a:=x.2) jU D.nd hx;rw[<-z,e1]at e2;injection e2 with e2;injection e2 with e2;exact c e2.symm
     rw[ai c,hgo,if_neg hne,fD];exact S2 _ _ (hls x hx)
   ·intro d hd;rw[take_snoc hdr]at hd;rcases bJ.mp hd with hd|hd
    ·exact hall d hd
    ·have:d=dr:=by simpa using hd
     rw[this];exact hmem
  ·-- a new list
   have hnew:(dr.a,dr.sg)∉ps.map (·.1):=by
    intro z;obtain⟨⟨r,a⟩,hra,er⟩:=aO.mp z;obtain rfl:r=(dr.a,dr.sg):=er;rw[fQ jU D.nd hra]at hv;cases hv
   have hgne:nl≠g:=(ah hg' hnlH').symm;have hnl3:upd H2 g (.dT (dP xI ps++[(xI (dr.a,dr.sg),.ref nl)])) nl=some (.lst []):=by rw[ai hgne];exact hnl2
   refine⟨.inl ⟨rfl,_,aA.of hnl3⟩,_,rfl,nl,_,_,rfl,rfl,hnl3,(by show 0<aj;decide),_,_,_,rfl,ps++[((dr.a,dr.sg),nl)],?_,?_,?_,?_,?_⟩
   ·refine D.snoc hnew (fun x hx=>ah (hls x hx) hnlH') (D.same.free hnlH') hgne ?_;intro b o q;rw[ai (ah q (D.same.free hnlH')),ai (ah q hg)];exact S2 _ _ (D.same _ _ q)
   ·rw[ai hgne.symm,aa,u5]
   ·rw[bp];show _+1<=_;omega
   ·intro x hx;rcases bJ.mp hx with hx|hx
    ·have hne:¬((dr.a,dr.sg)=x.1):=fun z=>hnew (by rw[z];exact aO.mpr ⟨x,hx,rfl⟩);rw[ai (ah (hls x hx) hnlH'),ai (D.ned x hx),hgo,if_neg hne,fD];exact S2 _ _ (hls x hx)
    ·have:x=((dr.a,dr.sg),nl):=by simpa using hx
     subst this;have hnil:cN (ds.take i) (dr.a,dr.sg)=[]:=qo fun d hd z=>hnew (by rw[<-z];exact hall d hd);show upd _ nl _ nl=_;rw[aa,hgo,if_pos rfl,hnil]
     rfl
   ·intro d hd;rw[aQ];rw[take_snoc hdr]at hd;rcases bJ.mp hd with hd|hd
    ·exact cJ _ (hall d hd)
    ·have:d=dr:=by simpa using hd
     rw[this];exact dw _ (by simp)
 ·rintro σ H' ⟨x2,x3,x4,rfl,ps,D,hg',hlen,hls,hall⟩;rw[am,Paired.length hds,cZ]at hls hall;exact⟨_,rfl,k g ps H' ⟨D.nd,hg',hls,hall⟩ D.same⟩
theorem nV:∀{L R:Zb},L.Nodup->(∀y∈L,y∈R)->L.length<=R.length
 |[],_,_,_=>bR _
 |x::L,R,nd,h=>by
  rw[ji]at nd;have hx:=h x cp;have:=nV (L:=L) (R:=R.erase x) nd.2 fun y hy=>(List.mem_erase_of_ne (fun e:y=x=>nd.1 (by rw[<-e];exact hy))).mpr (h y (cj _ hy));rw[List.length_erase_of_mem hx]at this;have:0<R.length:=List.length_pos_of_mem hx;rw[cw];omega
theorem Reach.in_{ds:List aq}{a b:Str}{J5:Zb}(hr:∀d∈ds,d.b∈J5)(h:Reach ds a b):b∈J5:=by
 cases h with
 |one h=>exact hr _ h
 |step r h=>exact hr _ h
inductive sG (vs:List V)(H:Hp)(Q:VK)(E:XK):Prop
 |mk (g:Addr) (room:Str) (ps:List ((Str×List Str)×Addr)) (ds:List aq) (J5:Zb):(vs=[.ref g,.str room])->(ij H g ps ds)->((∀d∈ds,d.b∈J5))->(J5.length<=1000)->(∀(d:Addr) (L:Zb) (H':Hp),H' d=some (.dK (bH L))->L.Nodup->(∀w,w∈L↔Reach ds room w)->H d=none->ae H H'->Q (.ref d) H')->sG  vs H Q E
structure I0(H0 H:Hp)(ds:List aq)(room:Str)(d w:Addr)(L W:Zb)(open_:Str->Prop):Prop where
 d:H d=some (.dK (bH L))
 w:H w=some (.lst (W.map V.str))
 same:ae H0 H
 nd:L.Nodup
 sound:∀y∈L,Reach ds room y
 wait:∀y∈W,y=room∨y∈L
 closed:∀y,(y=room∨y∈L)->y∉W->¬open_ y->∀c∈cN ds (y,aG),c∈L
theorem qI{K:Za}{st:Addr}(hst:∀H,b_ K H st (aG.map V.str)){vs:List V}{H:Hp}{Q:VK}{E:XK}(h:sG vs H Q E):sk K st (bT Q) (start tP vs) H:=by
 obtain⟨g,room,ps,ds,J5,rfl,G,hin,hz,k⟩:=h;refine fun d hd=>?_;refine⟨_,rfl,(by show 1<=aj;decide),fun w hw=>?_⟩;have hwH:H w=none:=(ae.new hd).free hw;have hdw:d≠w:=ah aa hw;refine⟨fun m σ H'=>∃(L W:Zb) (x y:Option V),σ=[some (.ref g),some (.str room),some (.ref d),some (.ref w),x,y]/\I0 H H' ds room d w L W (fun _=>False)/\m=2 * (J5.length-L.length)+W.length/\m<=2 * J5.length+1,
  ⟨_,[],[room],_,_,rfl,⟨kp aa hw,aa,(ae.new hd).trans (ae.new hw),ix,by simp,by simp,?_⟩,rfl,aN _⟩,?_⟩
 ·intro y hy hn;rcases hy with rfl|hy
  ·simp at hn
  ·cases hy
 rintro m σ H1 ⟨L,W,x4,x5,rfl,D,rfl,hbound⟩;have lenL:∀{L':Zb},L'.Nodup->(∀y∈L',Reach ds room y)->L'.length<=J5.length:=fun nd sd=>nV nd fun y hy=>(sd y hy).in_ hin;refine⟨_,rfl,.inl ⟨w,_,rfl,.inl (aA.of D.w),_,_,rfl,rfl,_,rfl,?_⟩⟩;refine eA (fun hpos=>?_) (fun hpos=>?_)
 ·have hne:W≠[]:=by
   intro z;rw[z]at hpos;exact absurd (of_decide_eq_true hpos) (by decide)
  obtain⟨W',here,rfl⟩:∃W' here,W=W'++[here]:=⟨W.dropLast,W.getLast hne,(List.dropLast_concat_getLast hne).symm⟩;have hhere:here=room∨here∈L:=D.wait here (by simp);refine⟨fun σ' H'=>∃(L' W2:Zb) (x y:Option V),σ'=[some (.ref g),some (.str room),some (.ref d),some (.ref w),x,y]/\I0 H H' ds room d w L' W2 (fun _=>False)/\2 * (J5.length-L'.length)+W2.length<2 * (J5.length-L.length)+(W'++[here]).length,
   fun σ' H' ⟨L',W2,x,y,e,D',hm⟩=>⟨_,hm,L',W2,x,y,e,D',rfl,by omega⟩,?_⟩
  have hlast:((W'++[here]).map V.str)[((W'++[here]).map V.str).length-1]?=some (.str here):=by simp
  have hdrop:((W'++[here]).map V.str).dropLast=W'.map V.str:=by rw[aQ];simp
  refine⟨_,rfl,.inl ⟨rfl,_,aA.of D.w⟩,w,_,_,rfl,rfl,D.w,hlast,?_⟩;rw[hdrop];have hd1:upd H1 w (.lst (W'.map V.str)) d=some (.dK (bH L)):=by rw[ai hdw];exact D.d
  have hw1:upd H1 w (.lst (W'.map V.str)) w=some (.lst (W'.map V.str)):=aa;have S1:ae H (upd H1 w (.lst (W'.map V.str))):=fun b o q=>by rw[ai (ah q hwH)];exact D.same _ _ q
  generalize upd H1 w (.lst (W'.map V.str))=H2 at hd1 hw1 S1 ⊢;have G2:=G.same S1;refine⟨_,rfl,g,rfl,.inr ⟨_,.inl G2.g⟩,_,rfl,(by show 2<=aj;decide),fun kt hkt=>⟨(by show 0<=aj;decide),fun et het=>⟨d_ (dP xI ps) (xI (here,aG)),.inr ⟨_,xI (here,aG),kt,.inl ?_,rfl,?_,uO _,rfl⟩,?_⟩⟩⟩
  ·exact kp (kp G2.g hkt) het
  ·unfold xI qN;refine⟨kt,_,rfl,b_.of (kp aa het),?_⟩;unfold TKIns;refine⟨_,_,rfl,?_,?_⟩
   ·unfold t5 qN;rfl
   unfold TKIns;refine⟨_,_,rfl,?_,?_⟩
   ·unfold EY qN;refine⟨st,_,rfl,hst _,?_⟩;unfold aG;show TKIns K _ [t5 _] [V.str _];unfold TKIns;refine⟨_,_,rfl,?_,?_⟩
    ·unfold t5 qN;rfl
    unfold TKIns;rfl
   unfold TKIns;rfl
  have S3:ae H2 (upd (upd H2 kt (.tup [.str here,.ref st])) et (.tup [])):=(ae.new hkt).trans (ae.new het);have het3:upd (upd H2 kt (.tup [.str here,.ref st])) et (.tup []) et=some (.tup []):=aa;generalize upd (upd H2 kt (.tup [.str here,.ref st])) et (.tup [])=H3 at S3 het3 ⊢;have D3:I0 H H3 ds room d w L W' (fun y=>y=here):=⟨S3 _ _ hd1,S3 _ _ hw1,S1.trans S3,D.nd,D.sound,fun y hy=>D.wait y (cJ _ hy),fun y hy hn ho=>D.closed y hy (fun z=>by rcases bJ.mp z with z|z;exact hn z;exact ho (by simpa using z)) (fun z=>z)⟩;have hm3:2 * (J5.length-L.length)+W'.length<2 * (J5.length-L.length)+(W'++[here]).length:=by rw[bp];show _<_+(_+1);omega
  have fin:∀(H4:Hp) (L' W2:Zb) (x y:Option V),I0 H H4 ds room d w L' W2 (fun y=>y=here)->(∀c∈cN ds (here,aG),c∈L')->2 * (J5.length-L'.length)+W2.length<2 * (J5.length-L.length)+(W'++[here]).length ->
    ∃(L' W2:Zb) (x' y':Option V),[some (V.ref g),some (.str room),some (.ref d),some (.ref w),x,y]=[some (.ref g),some (.str room),some (.ref d),some (.ref w),x',y']/\I0 H H4 ds room d w L' W2 (fun _=>False)/\2 * (J5.length-L'.length)+W2.length<2 * (J5.length-L.length)+(W'++[here]).length:=by
   intro H4 L' W2 x y D4 hc hm;refine⟨L',W2,x,y,rfl,⟨D4.d,D4.w,D4.same,D4.nd,D4.sound,D4.wait,fun y hy hn _=>?_⟩,hm⟩;by_cases e:y=here
   ·rw[e];exact hc
   ·exact D4.closed y hy hn e
  by_cases hmem:(here,aG)∈ps.map (·.1)
  ·obtain⟨⟨r,a⟩,hra,er⟩:=aO.mp hmem;obtain rfl:r=(here,aG):=er;rw[fQ jU G.nd hra];have hla:=G.ls _ hra;refine⟨a,rfl,.inl ⟨⟨_,aA.of ((S1.trans S3) _ _ hla)⟩,?_⟩⟩;refine gR (xs:=(cN ds (here,aG)).map V.str) (fun j σ H'=>∃(L' W2:Zb) (y:Option V),σ=[some (.ref g),some (.str room),some (.ref d),some (.ref w),some (.str here),y]/\I0 H H' ds room d w L' W2 (fun y=>y=here)/\(here=room∨here∈L')/\(∀c∈(cN ds (here,aG)).take j,c∈L') /\
     2 * (J5.length-L'.length)+W2.length<2 * (J5.length-L.length)+(W'++[here]).length)
    ⟨L,W',_,rfl,D3,hhere,by simp,hm3⟩ (fun j σ H' _ ⟨_,_,_,_,D',_⟩=>aA.of (D'.same _ _ hla)) ?_ ?_
   ·rintro j x σ H4 hj ⟨L',W2,y,rfl,D4,hh,hc,hm⟩;obtain⟨goal,hgoal,rfl⟩:=dE hj;have hedge:(⟨here,aG,goal⟩:aq)∈ds:=lf.mp (cu hgoal);have hreach:Reach ds room goal:=by
     rcases hh with hh|hh
     ·rw[hh]at hedge;exact .one hedge
     ·exact .step (D4.sound _ hh) hedge
    have hlen':=lenL D4.nd D4.sound;refine⟨_,rfl,_,rfl,d,_,rfl,.inl ⟨_,.inr goal,.inl D4.d,rfl,rfl⟩,_,rfl,?_⟩;rw[jC];by_cases c:goal∈L'
    ·rw[zzr1 c];refine bu ⟨L',W2,_,rfl,D4,hh,?_,hm⟩;intro c' hc';rw[take_snoc hgoal]at hc';rcases bJ.mp hc' with h|h
     ·exact hc c' h
     ·have:c'=goal:=by simpa using h
      rw[this];exact c
    ·rw[zzr0 c];refine bE ?_;have nd':(L'++[goal]).Nodup:=by
      rw[fG];refine⟨D4.nd,by simp,fun a ha b hb e=>?_⟩;have:b=goal:=by simpa using hb
      exact c (by rw[<-this,<-e];exact ha)
     have sd':∀y∈L'++[goal],Reach ds room y:=by
      intro y hy;rcases bJ.mp hy with hy|hy
      ·exact D4.sound y hy
      ·have:y=goal:=by simpa using hy
       rw[this];exact hreach
     have hlen2:=lenL nd' sd';rw[bp]at hlen2;have hlen3:L'.length+1<=J5.length:=hlen2;have hWl:W2.length<=9000:=by omega
     refine⟨_,rfl,_,rfl,d,_,rfl,.inl ⟨_,.inr goal,D4.d,rfl,bC (bj (mM _) (by omega)),rfl⟩,?_⟩;have hw5:upd H4 d (.dK (gL (bH L') (.inr goal) (.bl true))) w=some (.lst (W2.map V.str)):=by rw[ai hdw.symm];exact D4.w
     refine⟨_,rfl,.inl ⟨rfl,_,aA.of hw5⟩,_,rfl,w,_,_,rfl,rfl,hw5,by rw[am];exact aW hWl,L'++[goal],W2++[goal],_,rfl,⟨?_,?_,?_,nd',sd',?_,?_⟩,?_,?_,?_⟩
     ·rw[ai hdw,aa,gQ]
     ·rw[aa,aQ];rfl
     ·intro b o q;rw[ai (ah q hwH),ai (ah q hd)];exact D4.same _ _ q
     ·intro y hy;rcases bJ.mp hy with hy|hy
      ·rcases D4.wait y hy with h|h
       ·exact .inl h
       ·exact .inr (cJ _ h)
      ·exact .inr (dw _ hy)
     ·intro y hy hn ho c' hc';have hn1:y∉W2:=fun z=>hn (cJ _ z);have hyg:y≠goal:=fun z=>hn (dw _ (by simp[z]));refine cJ _ (D4.closed y ?_ hn1 ho c' hc');rcases hy with hy|hy
      ·exact .inl hy
      ·rcases bJ.mp hy with hy|hy
       ·exact .inr hy
       ·exact absurd (by simpa using hy) hyg
     ·rcases hh with h|h
      ·exact .inl h
      ·exact .inr (cJ _ h)
     ·intro c' hc';rw[take_snoc hgoal]at hc';rcases bJ.mp hc' with h|h
      ·exact cJ _ (hc c' h)
      ·exact dw _ h
     ·rw[bp,bp];show 2 * (J5.length-(L'.length+1))+(W2.length+1)<_;omega
   ·rintro σ H4 ⟨L',W2,y,rfl,D4,hh,hc,hm⟩;rw[am,cZ]at hc;exact fin H4 L' W2 _ _ D4 hc hm
  ·rw[n5 jU hmem];refine⟨et,rfl,.inr ⟨⟨_,b_.of het3⟩,?_⟩⟩;have hnil:cN ds (here,aG)=[]:=qo fun x hx z=>hmem (by rw[<-z];exact G.all x hx);refine Gq (xs:=[]) (fun j σ H'=>σ=[some (.ref g),some (.str room),some (.ref d),some (.ref w),some (.str here),x5]/\H'=H3) ⟨rfl,rfl⟩ (fun j σ H' _ ⟨_,e⟩=>by rw[e];exact b_.of het3) (fun j x σ H' hj=>by cases hj) ?_;rintro σ H' ⟨rfl,rfl⟩;exact fin _ L W' _ _ D3 (by rw[hnil];simp) hm3
 ·have hnil:W=[]:=by
   cases W with
   |nil=>rfl
   |cons a W=>exact absurd (zzr1 (by rw[am,cw];omega)) hpos
  subst hnil;refine⟨_,rfl,k d L H1 D.d D.nd (fun w=>⟨D.sound w,fun hr=>?_⟩) hd D.same⟩
  induction hr with
  |one h=>exact D.closed room (.inl rfl) (by simp) (fun z=>z) _ (lf.mpr h)
  |step r h ih=>exact D.closed _ (.inr ih) (by simp) (fun z=>z) _ (lf.mpr h)
inductive sp_first_led_round (vs:List V)(H:Hp)(Q:VK)(E:XK):Prop
 |mk (l3 d:Addr) (J5:Zb) (ps:List (Str×Addr)):(vs=[.ref l3,.ref d])->(H l3=some (.lst (J5.map V.str)))->(H d=some (.dK (dP Sum.inr ps)))->(ps.map (·.1)=J5)->(J5.Nodup)->((∀x∈ps,∃L,H x.2=some (.dK (bH L))/\x.1∉L))->(∀H',ae H H'->Q .non H')->sp_first_led_round  vs H Q E
abbrev lk(f:Str)(fs:List (Str×V)):Option V:=fs.lookup f
def kR(ds:List aq)(r:Str):Bool:=(cD ds r).all yE
structure fx(C:Addr)(H:Hp)(x:Addr)(J0 J4 J5:Zb)(ds:List aq):Prop where
 at_:∃(dx:Addr) (fs:List (Str×V)) (o1 o2 o3 o4 lv qu sg sl:Addr) (ts:Ze) (lps:List (Str×Addr)) (gps:List ((Str×List Str)×Addr)) (sps:List (Str×Addr)),
  H x=some (.ins C dx fs)/\lk "is_quiet" fs=none/\lk "goals" fs=none/\lk "led_from" fs=none/\lk "rooms" fs=none /\
  lk "own_asks" fs=some (.ref o1)/\lk "own_says" fs=some (.ref o2)/\lk "own_rooms" fs=some (.ref o3)/\lk "own_doors" fs=some (.ref o4) /\
  lk "leaving" fs=some (.ref lv)/\lk "quiet" fs=some (.ref qu)/\lk "sign_goals" fs=some (.ref sg)/\lk "still_led" fs=some (.ref sl) /\
  Lists H o1 o2 o3 o4 ts J0 J4 J5 ds /\
  lps.map (·.1)=J5/\H lv=some (.dK (dP Sum.inr lps))/\(∀x∈lps,∃us,H x.2=some (.lst (us.map V.ref))/\dg H us (cD ds x.1)) /\
  H qu=some (.dK (bH (J5.filter (kR ds))))/\ij H sg gps ds /\
  sps.map (·.1)=J5/\H sl=some (.dK (dP Sum.inr sps))/\(∀x∈sps,∃L,H x.2=some (.dK (bH L))/\L.Nodup/\∀w,w∈L↔Reach ds x.1 w)
 ok:cg J0 J4 J5 ds
 more:∃(dx:Addr) (fs:List (Str×V)),H x=some (.ins C dx fs)/\lk "asks" fs=none/\lk "says" fs=none/\lk "doors" fs=none/\lk "doors_from" fs=none
theorem gM(f:Str)(v:V):∀fs:List (Str×V),(c7 f v fs).length<=fs.length+1
 |[]=>aN _
 | (g,x)::r=>by
  unfold c7;split
  ·exact kD _
  ·rw[cw,cw];have:=gM f v r;omega
theorem sW:∀(ps qs:List (Str×Addr)),((qs++ps).map (·.1)).Nodup->jk (dP Sum.inr qs) (dP Sum.inr ps)=dP Sum.inr (qs++ps)
 |[],qs,_=>by rw[fD];rfl
 |p::ps,qs,nd=>by
  show jk (gL (dP Sum.inr qs) (Sum.inr p.1) (.ref p.2)) (dP Sum.inr ps)=_;have e:qs++p::ps=(qs++[p])++ps:=by simp
  rw[e]at nd ⊢;have hnew:p.1∉qs.map (·.1):=by
   rw[aQ,aQ,fG]at nd;have:=nd.1;rw[fG]at this;intro z;exact this.2.2 _ z _ (by simp) rfl
  rw[yn _ (n5 jX hnew)];have:=sW ps (qs++[p]) nd;rw[<-this];have e2:dP (Sum.inr:Str->d9) (qs++[p])=dP Sum.inr qs++[(Sum.inr p.1,V.ref p.2)]:=by
   unfold dP;rw[aQ];rfl
  rw[e2]
theorem Lists.exI{H H':Hp}{x C dx:Addr}{fs:List (Str×V)}{l1 l2 l3 l4:Addr}{ts:Ze}{J0 J4 J5:Zb}{ds:List aq}(h:Lists H l1 l2 l3 l4 ts J0 J4 J5 ds)(hx:H x=some (.ins C dx fs))(e:dO x H H'):Lists H' l1 l2 l3 l4 ts J0 J4 J5 ds:=by
 have ne:∀{b:Addr}{xs:List V},H b=some (.lst xs)->b≠x:=fun hb z=>by rw[z,hx]at hb;cases hb
 exact⟨e _ _ h.a1 (ne h.a1),e _ _ h.a2 (ne h.a2),e _ _ h.a3 (ne h.a3),e _ _ h.a4 (ne h.a4),h.ds.kt fun b xs hb=>e _ _ hb fun z=>by rw[z,hx]at hb;cases hb⟩
theorem dO.ktI{H H':Hp}{x C dx:Addr}{fs:List (Str×V)}(e:dO x H H')(hx:H x=some (.ins C dx fs)):AG H H':=fun b xs hb=>e _ _ hb fun z=>by rw[z,hx]at hb;cases hb
theorem dO.neI{H:Hp}{x C dx:Addr}{fs:List (Str×V)}(hx:H x=some (.ins C dx fs)){b:Addr}{xs:List V}(hb:H b=some (.lst xs)):b≠x:=fun z=>by rw[z,hx]at hb;cases hb
theorem EC{H:Hp}{x C dx:Addr}{fs:List (Str×V)}(hx:H x=some (.ins C dx fs)){b:Addr}{kvs:List (d9×V)}(hb:H b=some (.dK kvs)):b≠x:=fun z=>by rw[z,hx]at hb;cases hb
theorem Hb{H:Hp}{x C dx:Addr}{fs:List (Str×V)}(hx:H x=some (.ins C dx fs)){b:Addr}{kvs:List (TK×V)}(hb:H b=some (.dT kvs)):b≠x:=fun z=>by rw[z,hx]at hb;cases hb
structure MC(K:Za)(C:Addr):Prop where
 cls:Db K C
 a1:c9 K C "own_asks"
 a2:c9 K C "own_says"
 a3:c9 K C "own_rooms"
 a4:c9 K C "own_doors"
 a5:c9 K C "leaving"
 a6:c9 K C "quiet"
 a7:c9 K C "sign_goals"
 a8:c9 K C "still_led"
theorem yL{H:Hp}{x C dx:Addr}{fs:List (Str×V)}(f:Str)(y:V)(hx:H x=some (.ins C dx fs)):∃H',H'=upd H x (.ins C dx (c7 f y fs))/\H' x=some (.ins C dx (c7 f y fs))/\dO x H H' :=
 ⟨_,rfl,aa,dO.upd _ _ _⟩
theorem i8{p:Str->Bool}{ws:Zb}{i:Nat}{w:Str}(h:ws[i]?=some w):(ws.take (i+1)).filter p=(ws.take i).filter p++(if p w=true then[w]else[]):=by
 rw[take_snoc h,rG];congr 1;by_cases c:p w=true
 ·rw[if_pos c];simp[c]
 ·rw[if_neg c];simp[c]
theorem Ag(ds:List aq)(r:Str):(cD ds r).length<=ds.length:=jG _ _
theorem Gz(a b:Str):decide (aS a=aS b)=decide (a=b):=by
 by_cases e:a=b
 ·rw[zzr1 e,zzr1 (by rw[e])]
 ·rw[zzr0 e,zzr0 (fun z=>e (lN z))]
theorem fx.by{C:Addr}{H H':Hp}{x:Addr}{J0 J4 J5:Zb}{ds:List aq}(h:fx C H x J0 J4 J5 ds)
  (hs:∀b ws,H b=some (.lst (List.map V.str ws))->H' b=some (.lst (List.map V.str ws))) (hr:∀b ts,H b=some (.lst (List.map V.ref ts))->H' b=some (.lst (List.map V.ref ts))) (ht:AG H H')
  (hd:∀b kvs,H b=some (.dK kvs)->H' b=some (.dK kvs)) (hT:∀b kvs,H b=some (.dT kvs)->H' b=some (.dT kvs)) (hi:∀b C dx fs,H b=some (.ins C dx fs)->H' b=some (.ins C dx fs)):fx C H' x J0 J4 J5 ds:=by
 obtain⟨dx,fs,o1,o2,o3,o4,lv,qu,sg,sl,ts,lps,gps,sps,g1,a1,a2,a3,a4,b1,b2,b3,b4,b5,b6,b7,b8,L,c1,c2,c3,c4,G,d1,d2,d3⟩:=h.at_;refine⟨⟨dx,fs,o1,o2,o3,o4,lv,qu,sg,sl,ts,lps,gps,sps,hi _ _ _ _ g1,a1,a2,a3,a4,b1,b2,b3,b4,b5,b6,b7,b8,⟨hs _ _ L.a1,hs _ _ L.a2,hs _ _ L.a3,hr _ _ L.a4,L.ds.kt ht⟩,c1,hd _ _ c2,fun y hy=>?_,hd _ _ c4,⟨G.nd,hT _ _ G.g,fun y hy=>hs _ _ (G.ls y hy),G.all⟩,d1,hd _ _ d2,fun y hy=>?_⟩,h.ok,by obtain⟨dx,fs,g,r⟩:=h.more;exact⟨dx,fs,hi _ _ _ _ g,r⟩⟩
 ·obtain⟨us,e1,e2⟩:=c3 y hy;exact⟨us,hr _ _ e1,e2.kt ht⟩
 ·obtain⟨L0,e1,e2⟩:=d3 y hy;exact⟨L0,hd _ _ e1,e2⟩
theorem fx.same{C:Addr}{H H':Hp}{x:Addr}{J0 J4 J5:Zb}{ds:List aq}(h:fx C H x J0 J4 J5 ds)(S:ae H H'):fx C H' x J0 J4 J5 ds :=
 h.by (fun _ _ e=>S _ _ e) (fun _ _ e=>S _ _ e) (ae.kt S) (fun _ _ e=>S _ _ e) (fun _ _ e=>S _ _ e) (fun _ _ _ _ e=>S _ _ e)
theorem lR{w:Str}{ws:Zb}:aS w∈ws.map aS↔w∈ws:=by
 constructor
 ·intro h;obtain⟨x,hx,e⟩:=aO.mp h;rw[<-lN e];exact hx
 ·exact rK
def qz(K:Za):TS :=
 aZ (dD (fL K) (aE (xZ K V0 "own_rooms")))
def qR:List Str:=["self"]
def sq(K:Za):TS :=
 ax (aV (dD (fL K) (aE V1)) U2)
 (ax (aV (tC (.int 0)) U3)
 (ax (zz (bx (aK zZ V3 (dD (cV K) (aE V2)))) (ax (fJ (dq K V0) (ic K 3 (be U4 (be U5 (be U6 (g_))))) (cG (zM (bx (aK (um K) V4 (aK (Cq K) V2 V3))) (zM (bx (aK (um K) V5 (dZ (aE (tC (.str "still")))))) (bx (aK (nR K true) V6 V2)))) (eE (uf K "list" fM V2 (aE V6))) (bo)))
 (aV (aK eN V3 (tC (.int 1))) U3)))
 (aZ V2)))
def tQ:List Str:=["doors","rooms","found","at","room","sign","other"]
inductive jw(C:Addr)(vs:List V)(H:Hp)(Q:VK)(E:XK):Prop
 |mk (x:Addr) (J0 J4 J5:Zb) (ds:List aq):(vs=[.ref x])->(fx C H x J0 J4 J5 ds)->(∀l,H l=none->Q (.ref l) (upd H l (.lst (J5.map V.str))))->jw C vs H Q E
theorem DK{K:Za}{C:Addr}(M:MC K C){vs:List V}{H:Hp}{Q:VK}{E:XK}(h:jw C vs H Q E):qz K (bT Q) (start qR vs) H:=by
 obtain⟨x,J0,J4,J5,ds,rfl,h,k⟩:=h;obtain⟨dx,fs,o1,o2,o3,o4,lv,qu,sg,sl,ts,lps,gps,sps,g1,a1,a2,a3,a4,b1,b2,b3,b4,b5,b6,b7,b8,L,_⟩:=h.at_;exact⟨_,rfl,x,C,dx,fs,.ref o3,rfl,g1,M.cls,M.a3,b3,.inl ⟨o3,_,rfl,.inl (aA.of L.a3),k⟩⟩
theorem Reach.trans{ds:List aq}{a b c:Str}(h1:Reach ds a b)(h2:Reach ds b c):Reach ds a c:=by
 induction h2 with
 |one h=>exact .step h1 h
 |step r h ih=>exact .step ih h
def xE(ds:List aq)(gs:Zb)(w:Str):Prop:=∃g∈gs,w=g∨Reach ds g w
inductive iY(K:Za)(vs:List V)(H:Hp)(Q:VK)(E:XK):Prop
 |mk (l4 l:Addr) (ts:Ze) (ds:List aq) (gs J5:Zb):(vs=[.ref l4,.ref l])->(H l4=some (.lst (ts.map V.ref)))->(dg H ts ds)->(H l=some (.lst (gs.map V.str)))->((∀d∈ds,d.b∈J5))->(J5.length<=1000)->(gs.length<=1000)->(∀(f:Addr) (F:Zb) (H':Hp),H' f=some (.lst (F.map V.str))->(∀w,w∈F↔xE ds gs w)->F.length<=2000->H f=none->ae H H'->Q (.ref f) H')->iY K vs H Q E
structure SO(H0 H:Hp)(ds:List aq)(gs:Zb)(f:Addr)(X:Zb):Prop where
 f:H f=some (.lst ((gs++X).map V.str))
 same:ae H0 H
 nd:X.Nodup
 new:∀y∈X,y∉gs
 sound:∀y∈X,xE ds gs y
theorem xE.step{ds:List aq}{gs:Zb}{a b:Str}(h:xE ds gs a)(e:(⟨a,aG,b⟩:aq)∈ds):xE ds gs b:=by
 obtain⟨g,hg,rfl|h⟩:=h
 ·exact⟨_,hg,.inr (.one e)⟩
 ·exact⟨g,hg,.inr (.step h e)⟩
theorem w_(a b:Zb):decide (ut a=ut b)=decide (a=b):=by
 by_cases e:a=b
 ·rw[zzr1 e,zzr1 (by rw[e])]
 ·rw[zzr0 e,zzr0 (fun z=>e (BE z))]
theorem yh{K:Za}{vs:List V}{H:Hp}{Q:VK}{E:XK}(h:iY K vs H Q E):sq K (bT Q) (start tQ vs) H:=by
 obtain⟨l4,l,ts,ds,gs,J5,rfl,h4,hds,hl,hin,hz,hz2,k⟩:=h;refine⟨_,rfl,.inl ⟨l,_,rfl,.inl (aA.of hl),fun f hf=>?_⟩⟩;have lenX:∀{X:Zb},X.Nodup->(∀y∈X,y∉gs)->(∀y∈X,xE ds gs y)->X.length<=J5.length:=fun nd nw sd=>nV nd fun y hy=>by
  obtain⟨g,hg,e|h⟩:=sd y hy
  ·exact absurd (by rw[e];exact hg) (nw y hy)
  ·exact h.in_ hin
 refine⟨fun m σ H'=>∃(X:Zb) (at_:Nat) (x y z:Option V),σ=[some (.ref l4),some (.ref l),some (.ref f),some (.int at_),x,y,z]/\SO H H' ds gs f X/\at_<=(gs++X).length/\(∀i y,i<at_->(gs++X)[i]?=some y->∀c,(⟨y,aG,c⟩:aq)∈ds->c∈gs++X)/\m=gs.length+J5.length-at_,
  ⟨_,[],0,_,_,_,rfl,⟨by rw[fD];exact aa,ae.new hf,ix,by simp,by simp⟩,bR _,fun i y h=>by omega,rfl⟩,?_⟩
 rintro m σ H1 ⟨X,at_,x4,x5,x6,rfl,D,hat,hcl,rfl⟩;have hXl:=lenX D.nd D.new D.sound;refine⟨_,rfl,_,rfl,.inl ⟨f,_,rfl,.inl (aA.of D.f),_,_,rfl,rfl,_,rfl,?_⟩⟩;refine eA (fun hlt=>?_) (fun hlt=>?_)
 ·have hlt':at_<(gs++X).length:=by
   have:=of_decide_eq_true hlt;rw[am]at this;omega
  have hat0:at_<gs.length+J5.length:=by rw[bp]at hlt';omega
  generalize hhere:(gs++X)[at_]=here;have hget:(gs++X)[at_]?=some here:=by rw[<-hhere];exact fh hlt'
  have hfrom:∀{Y:Zb}{y:Str},(∀y∈Y,xE ds gs y)->y∈gs++Y->xE ds gs y:=fun sd hy=>by
   rcases bJ.mp hy with hy|hy
   ·exact⟨_,hy,.inl rfl⟩
   ·exact sd _ hy
  refine⟨fun σ' H'=>∃(X':Zb) (x y z:Option V),σ'=[some (.ref l4),some (.ref l),some (.ref f),some (.int ((at_+1:Nat):Int)),x,y,z]/\SO H H' ds gs f X'/\at_+1<=(gs++X').length/\(∀i y,i<at_+1->(gs++X')[i]?=some y->∀c,(⟨y,aG,c⟩:aq)∈ds->c∈gs++X'),
   fun σ' H' ⟨X',x,y,z,e,D',h1,h2⟩=>⟨_,(by omega:gs.length+J5.length-(at_+1)<gs.length+J5.length-at_),X',at_+1,x,y,z,e,D',h1,h2,rfl⟩,?_⟩
  refine⟨_,rfl,l4,rfl,⟨_,aA.of (D.same _ _ h4)⟩,?_⟩;refine gR (xs:=ts.map V.ref) (fun j σ H'=>∃(X' Y:Zb) (x y z:Option V),σ=[some (.ref l4),some (.ref l),some (.ref f),some (.int at_),x,y,z]/\X'=X++Y/\SO H H' ds gs f X'/\∀d∈ds.take j,d.a=here->d.sg=aG->d.b∈gs++X')
   ⟨X,[],_,_,_,rfl,by simp,D,by simp⟩ (fun j σ H' _ ⟨_,_,_,_,_,_,_,D',_⟩=>aA.of (D'.same _ _ h4)) ?_ ?_
  ·rintro j y σ H2 hj ⟨X',Y,x4',x5',x6',rfl,rfl,D2,hdone⟩;obtain⟨t,ht,rfl⟩:=dH hj;obtain⟨dr,hdr,hatd⟩:=Paired.getL hds ht;obtain⟨s,ht2,hs2⟩:=hatd.kt (ae.kt D2.same);have hmem:=cu hdr;have hXl2:=lenX D2.nd D2.new D2.sound;have hget2:(gs++(X++Y))[at_]?=some here:=by
    rw[<-dA,kH hlt'];exact hget
   refine⟨t,_,rfl,b_.of ht2,rfl,_,_,rfl,_,_,rfl,_,_,rfl,rfl,?_⟩;have nextI:∀(H3:Hp) (X3 Y3:Zb) (q4 q5 q6:Option V),X3=X++Y3->SO H H3 ds gs f X3->(∀y∈X++Y,y∈X3)->(dr.a=here->dr.sg=aG->dr.b∈gs++X3) ->
     ∃(X' Y:Zb) (x y z:Option V),[some (.ref l4),some (.ref l),some (.ref f),some (.int at_),q4,q5,q6]=[some (.ref l4),some (.ref l),some (.ref f),some (.int at_),x,y,z]/\X'=X++Y/\SO H H3 ds gs f X'/\∀d∈ds.take (j+1),d.a=here->d.sg=aG->d.b∈gs++X':=by
    intro H3 X3 Y3 q4 q5 q6 e D3 hsub hnew;refine⟨X3,Y3,q4,q5,q6,rfl,e,D3,fun d hd e1 e2=>?_⟩;rw[take_snoc hdr]at hd;rcases bJ.mp hd with hd|hd
    ·rcases bJ.mp (hdone d hd e1 e2)with h|h
     ·exact cJ _ h
     ·exact dw _ (hsub _ h)
    ·have:d=dr:=by simpa using hd
     subst this;exact hnew e1 e2
   refine⟨_,rfl,_,rfl,_,rfl,.inl ⟨f,_,_,_,rfl,rfl,aA.of D2.f,cf (j:=at_) (by rw[cb,hget2];rfl),aS dr.a,aS here,i_ _,i_ _,(by show 0<=8;decide),(by show 0<=8;decide),_,rfl,?_⟩⟩;rw[Gz];by_cases c1:dr.a=here;rotate_left
   ·rw[zzr0 c1];exact bu (bu (nextI H2 _ _ _ _ _ rfl D2 (fun _ h=>h) fun e=>absurd e c1))
   rw[zzr1 c1];refine bE ?_;refine⟨_,rfl,(by show 1<=aj;decide),fun st hst=>⟨ut dr.sg,ut aG,fU (b_.of (kp hs2 hst)),fU (b_.of aa),by rw[i9];decide,by rw[i9];decide,_,rfl,?_⟩⟩;rw[w_];have D3:SO H (upd H2 st (.tup [.str "still"])) ds gs f (X++Y):=⟨kp D2.f hst,D2.same.trans (ae.new hst),D2.nd,D2.new,D2.sound⟩;have hstS:H st=none:=D2.same.free hst;generalize upd H2 st (.tup [.str "still"])=H3 at D3 ⊢;by_cases c2:dr.sg=aG;rotate_left
   ·rw[zzr0 c2];exact bu (bu (nextI H3 _ _ _ _ _ rfl D3 (fun _ h=>h) fun _ e=>absurd e c2))
   rw[zzr1 c2];refine bE ?_;refine⟨_,rfl,_,rfl,aS dr.b,(gs++(X++Y)).map aS,f,_,i_ _,rfl,.inl (aA.of D3.f),fS _,(by show 0<=8;decide),by rw[bY];decide,_,rfl,?_⟩;rw[if_pos rfl];by_cases c3:dr.b∈gs++(X++Y)
   ·rw[zzr1 (lR.mpr c3)];exact bu (nextI H3 _ _ _ _ _ rfl D3 (fun _ h=>h) fun _ _=>c3)
   rw[zzr0 (fun z=>c3 (lR.mp z))];refine bE ?_;refine⟨_,rfl,.inl ⟨rfl,_,aA.of D3.f⟩,_,rfl,f,_,_,rfl,rfl,D3.f,by rw[am,bp];exact aW (by omega),?_⟩;have hedge:(⟨here,aG,dr.b⟩:aq)∈ds:=by
    have:dr=⟨here,aG,dr.b⟩:=by cases dr;simp only at c1 c2;rw[c1,c2]
    rw[<-this];exact hmem
   refine nextI _ (X++(Y++[dr.b])) _ _ _ _ rfl ⟨?_,?_,?_,?_,?_⟩ ?_ ?_
   ·rw[aa];have:gs++(X++(Y++[dr.b]))=gs++(X++Y)++[dr.b]:=by simp
    rw[this,aQ (l₂:=[dr.b])]
    rfl
   ·intro b o q;rw[ai (ah q hf)];exact D3.same _ _ q
   ·rw[<-dA,fG];refine⟨D3.nd,by simp,fun a ha b hb e=>?_⟩;have:b=dr.b:=by simpa using hb
    exact c3 (dw _ (by rw[<-this,<-e];exact ha))
   ·intro y hy;rw[<-dA]at hy;rcases bJ.mp hy with hy|hy
    ·exact D3.new y hy
    ·have:y=dr.b:=by simpa using hy
     rw[this];exact fun z=>c3 (cJ _ z)
   ·intro y hy;rw[<-dA]at hy;rcases bJ.mp hy with hy|hy
    ·exact D3.sound y hy
    ·have:y=dr.b:=by simpa using hy
     rw[this];exact(hfrom D.sound (cu hget)).step hedge
   ·intro y hy;rw[<-dA];exact cJ _ hy
   ·intro _ _;exact dw _ (by simp)
  ·rintro σ H2 ⟨X',Y,x4',x5',x6',rfl,rfl,D2,hdone⟩;rw[am,Paired.length hds,cZ]at hdone;refine⟨_,rfl,_,_,rfl,rfl,X++Y,_,_,_,rfl,D2,?_,fun i y hi hy c hc=>?_⟩
   ·rw[<-dA,bp];omega
   ·by_cases e:i=at_
    ·subst e;rw[<-dA,kH hlt',hget]at hy;have:=dX hy;subst this;exact hdone _ hc rfl rfl
    ·have hi':i<at_:=by omega
     rw[<-dA,kH (by omega)]at hy;have:=hcl i y hi' hy c hc;rw[<-dA];exact cJ _ this
 ·have hend:at_=(gs++X).length:=by
   have:¬(at_<(gs++X).length):=fun z=>hlt (zzr1 (by rw[am];omega));omega
  refine⟨_,rfl,k f (gs++X) H1 D.f (fun w=>⟨fun hw=>?_,fun hw=>?_⟩) (by rw[bp];omega) hf D.same⟩
  ·rcases bJ.mp hw with hw|hw
   ·exact⟨_,hw,.inl rfl⟩
   ·exact D.sound _ hw
  ·have closed:∀y∈gs++X,∀c,(⟨y,aG,c⟩:aq)∈ds->c∈gs++X:=fun y hy c hc=>by
    obtain⟨n,hn⟩:=List.getElem?_of_mem hy;exact hcl n y (by rw[hend];exact(db.mp hn).1) hn c hc
   obtain⟨g,hg,rfl|h⟩:=hw
   ·exact cJ _ hg
   ·induction h with
    |one e=>exact closed _ (cJ _ hg) _ e
    |step r e ih=>exact closed _ ih _ e

theorem ie{ds:List aq}{i:Nat}{d:aq}{p:aq->Bool}(h:ds[i]?=some d):(ds.take (i+1)).filter p=(ds.take i).filter p++(if p d=true then[d]else[]):=by
 rw[take_snoc h,rG];congr 1;by_cases c:p d=true
 ·rw[if_pos c];simp[c]
 ·rw[if_neg c];simp[c]
theorem CO(ws:Zb){j k:Nat}(hj:j<=k)(hk:k<=ws.length):df (ws.map V.str) (some (j:Int)) (some (k:Int))=((ws.drop j).take (k-j)).map V.str:=by
 unfold df;rw[HT.sIx_nat,HT.sIx_nat,am,oz hk,oz (bj hj hk),rO,vq]
theorem b_.same{K:Za}{H H':Hp}{a:Addr}{xs:List V}(S:ae H H')(h:b_ K H a xs):b_ K H' a xs:=by
 rcases h with(h|⟨o,h⟩)|h
 ·exact .inl (.inl (S _ _ h))
 ·exact .inl (.inr ⟨o,S _ _ h⟩)
 ·exact .inr h
theorem aA.same{K:Za}{H H':Hp}{a:Addr}{xs:List V}(S:ae H H')(h:aA K H a xs):aA K H' a xs:=by
 rcases h with(h|⟨o,h⟩)|h
 ·exact .inl (.inl (S _ _ h))
 ·exact .inl (.inr ⟨o,S _ _ h⟩)
 ·exact .inr h
mutual
theorem kj.same{K:Za}{H H':Hp}(S:ae H H'):∀{d:DT}{v:V},kj K H d v->kj K H' d v
 |.k a,v,h=>by unfold kj at h ⊢;exact h
 |.t l,v,h=>by
  unfold kj at h ⊢;obtain⟨b,xs,e,q,r⟩:=h;exact⟨b,xs,e,b_.same S q,DIns.same S r⟩
 |.s l,v,h=>by
  unfold kj at h ⊢;obtain⟨b,xs,e,q,r⟩:=h;exact⟨b,xs,e,aA.same S q,DIns.same S r⟩
theorem DIns.same{K:Za}{H H':Hp}(S:ae H H'):∀{ds:List DT}{vs:List V},DIns K H ds vs->DIns K H' ds vs
 |[],vs,h=>by unfold DIns at h ⊢;exact h
 |d::ds,vs,h=>by
  unfold DIns at h ⊢;obtain⟨v,us,e,q,r⟩:=h;exact⟨v,us,e,kj.same S q,DIns.same S r⟩
end
theorem tE{n:Nat}:∀{ds:List DT}{i:Nat}{d:DT},DT.depths ds<=n->ds[i]?=some d->d.depth<=n
 |[],i,d,_,e=>by simp at e
 |x::ds,i,d,h,e=>by
  have h':max (DT.depth x) (DT.depths ds)<=n:=h;cases i with
  |zero=>simp at e;subst e;omega
  |succ i=>simp at e;exact tE (by omega) e
open Classical in
theorem yT(xs:List V)(k:Nat):df xs none (some (k:Int))=xs.take k:=by
 unfold df;rw[HT.sIx_none,HT.sIx_nat,mq,vA,List.take_eq_take_iff];omega
theorem tH(xs:List V)(k:Nat):df xs (some (k:Int)) none=xs.drop k:=by
 unfold df;rw[HT.sIx_none,HT.sIx_nat,rN (by rw[fm];omega)];by_cases h:k<=xs.length
 ·rw[oz h]
 ·rw[vp (by omega),oE (by simp),oE (by omega)]
def sv(K:Za):TS :=
 aZ (dD (fL K) (aE (xZ K V0 "own_asks")))
def tU:List Str:=["self"]
def su(K:Za):TS :=
 aZ (dD (fL K) (aE (xZ K V0 "own_says")))
def tT:List Str:=["self"]
theorem DB{C x:Addr}{H:Hp}{J0 J4 J5:Zb}{ds:List aq}(h:fx C H x J0 J4 J5 ds):∃(dx:Addr) (fs:List (Str×V)) (o1 o2 lv:Addr) (lps:List (Str×Addr)),H x=some (.ins C dx fs)/\lk "asks" fs=none/\lk "says" fs=none/\lk "doors_from" fs=none/\lk "is_quiet" fs=none/\lk "own_asks" fs=some (.ref o1)/\lk "own_says" fs=some (.ref o2)/\lk "leaving" fs=some (.ref lv) /\
  H o1=some (.lst (J0.map V.str))/\H o2=some (.lst (J4.map V.str))/\lps.map (·.1)=J5/\H lv=some (.dK (dP Sum.inr lps))/\(∀x∈lps,∃us,H x.2=some (.lst (us.map V.ref))/\dg H us (cD ds x.1)):=by
 obtain⟨dx,fs,o1,o2,o3,o4,lv,qu,sg,sl,ts,lps,gps,sps,g1,a1,a2,a3,a4,b1,b2,b3,b4,b5,b6,b7,b8,L,c1,c2,c3,c4,G,d1,d2,d3⟩:=h.at_;obtain⟨dx',fs',g1',e1,e2,e3,e4⟩:=h.more;rw[g1]at g1';cases g1';exact⟨dx,fs,o1,o2,lv,lps,g1,e1,e2,e4,a1,b1,b2,b5,L.a1,L.a2,c1,c2,c3⟩
inductive lM(C:Addr)(vs:List V)(H:Hp)(Q:VK)(E:XK):Prop
 |mk (x:Addr) (J0 J4 J5:Zb) (ds:List aq):(vs=[.ref x])->(fx C H x J0 J4 J5 ds)->(∀l,H l=none->Q (.ref l) (upd H l (.lst (J0.map V.str))))->lM C vs H Q E
theorem FY{K:Za}{C:Addr}(M:MC K C){vs:List V}{H:Hp}{Q:VK}{E:XK}(h:lM C vs H Q E):sv K (bT Q) (start tU vs) H:=by
 obtain⟨x,J0,J4,J5,ds,rfl,h,k⟩:=h;obtain⟨dx,fs,o1,o2,lv,lps,g1,a1,a2,a3,a4,b1,b2,b3,c1,c2,_⟩:=DB h;exact⟨_,rfl,x,C,dx,fs,.ref o1,rfl,g1,M.cls,M.a1,b1,.inl ⟨o1,_,rfl,.inl (aA.of c1),k⟩⟩
inductive lJ(C:Addr)(vs:List V)(H:Hp)(Q:VK)(E:XK):Prop
 |mk (x:Addr) (J0 J4 J5:Zb) (ds:List aq):(vs=[.ref x])->(fx C H x J0 J4 J5 ds)->(∀l,H l=none->Q (.ref l) (upd H l (.lst (J4.map V.str))))->lJ C vs H Q E
theorem FW{K:Za}{C:Addr}(M:MC K C){vs:List V}{H:Hp}{Q:VK}{E:XK}(h:lJ C vs H Q E):su K (bT Q) (start tT vs) H:=by
 obtain⟨x,J0,J4,J5,ds,rfl,h,k⟩:=h;obtain⟨dx,fs,o1,o2,lv,lps,g1,a1,a2,a3,a4,b1,b2,b3,c1,c2,_⟩:=DB h;exact⟨_,rfl,x,C,dx,fs,.ref o2,rfl,g1,M.cls,M.a2,b2,.inl ⟨o2,_,rfl,.inl (aA.of c2),k⟩⟩
mutual
def DR(K:Za)(G:Hp):DT->V->Prop
 |.k a,v=>v=kV a
 |.t l,v=>∃b xs,v=.ref b/\b_ K G b xs/\DRs K G l xs
 |.s l,v=>∃b xs,v=.ref b/\G b=some (.lst xs)/\DRs K G l xs
def DRs(K:Za)(G:Hp):List DT->List V->Prop
 |[],vs=>vs=[]
 |k::r,vs=>∃v us,vs=v::us/\DR K G k v/\DRs K G r us
end
mutual
theorem DR.same{K:Za}{H H':Hp}(S:ae H H'):∀{d:DT}{v:V},DR K H d v->DR K H' d v
 |.k a,v,h=>by unfold DR at h ⊢;exact h
 |.t l,v,h=>by
  unfold DR at h ⊢;obtain⟨b,xs,e,q,r⟩:=h;exact⟨b,xs,e,b_.same S q,DRs.same S r⟩
 |.s l,v,h=>by
  unfold DR at h ⊢;obtain⟨b,xs,e,q,r⟩:=h;exact⟨b,xs,e,S _ _ q,DRs.same S r⟩
theorem DRs.same{K:Za}{H H':Hp}(S:ae H H'):∀{ds:List DT}{vs:List V},DRs K H ds vs->DRs K H' ds vs
 |[],vs,h=>by unfold DRs at h ⊢;exact h
 |d::ds,vs,h=>by
  unfold DRs at h ⊢;obtain⟨v,us,e,q,r⟩:=h;exact⟨v,us,e,DR.same S q,DRs.same S r⟩
end
mutual
theorem DR.dIn{K:Za}{H:Hp}:∀{d:DT}{v:V},DR K H d v->kj K H d v
 |.k a,v,h=>by unfold DR at h;unfold kj;exact h
 |.t l,v,h=>by
  unfold DR at h;unfold kj;obtain⟨b,xs,e,q,r⟩:=h;exact⟨b,xs,e,q,DRs.dIns r⟩
 |.s l,v,h=>by
  unfold DR at h;unfold kj;obtain⟨b,xs,e,q,r⟩:=h;exact⟨b,xs,e,aA.of q,DRs.dIns r⟩
theorem DRs.dIns{K:Za}{H:Hp}:∀{ds:List DT}{vs:List V},DRs K H ds vs->DIns K H ds vs
 |[],vs,h=>by unfold DRs at h;unfold DIns;exact h
 |d::ds,vs,h=>by
  unfold DRs at h;unfold DIns;obtain⟨v,us,e,q,r⟩:=h;exact⟨v,us,e,DR.dIn q,DRs.dIns r⟩
end
theorem DRs.paired{K:Za}{G:Hp}:∀{ds:List DT}{vs:List V},DRs K G ds vs->Paired (fun v d=>DR K G d v) vs ds
 |[],vs,h=>by unfold DRs at h;subst h;exact .nil
 |d::ds,vs,h=>by
  unfold DRs at h;obtain⟨v,us,rfl,q,r⟩:=h;exact .cons q (DRs.paired r)
theorem DRs.len{K:Za}{G:Hp}{ds:List DT}{vs:List V}(h:DRs K G ds vs):vs.length=ds.length:=Paired.length h.paired
theorem DRs.getL{K:Za}{G:Hp}{ds:List DT}{vs:List V}{i:Nat}{v:V}(h:DRs K G ds vs)(e:vs[i]?=some v):∃d,ds[i]?=some d/\DR K G d v:=Paired.getL h.paired e
structure AV where
 p:Hp->V->Prop
 mono:∀{G G':Hp}{v:V},ae G G'->p G v->p G' v
def dv(K:Za)(d:DT):AV:=⟨fun G v=>DR K G d v,fun S h=>DR.same S h⟩
def bv(b:Bool):AV:=⟨fun _ v=>v=.bl b,fun _ h=>h⟩
def nv:AV:=⟨fun _ v=>v=.non,fun _ h=>h⟩
abbrev IU(n:Int):DT:=.k (.inl n)
section
variable{K:Za}
def RV(v:V)(z:AV):Prop:=∀G,z.p G v
theorem HK{n:Int}:RV (.int n) (dv K (IU n)):=fun G=>by show DR K G _ _;unfold DR;rfl
theorem ph{w:Str}:RV (.str w) (dv K (aS w)):=fun G=>by show DR K G _ _;unfold aS DR;rfl
theorem iL{G:Hp}:∀ws:List Str,DRs K G (ws.map aS) (ws.map V.str)
 |[]=>by unfold DRs;rfl
 |w::ws=>by
  rw[bf,bf];unfold DRs;exact⟨_,_,rfl,ph (K:=K) G,iL ws⟩
def GS(J0 J4 J5:Zb)(ds:List aq):DT:=.t [.s (J0.map aS),.s (J4.map aS),.s (J5.map aS),.s (ds.map j1)]
theorem Gx{G:Hp}{s:Addr}{sg:Zb}(h:b_ K G s (sg.map V.str)):DR K G (ut sg) (.ref s):=by
 unfold ut DR;exact⟨s,_,rfl,h,iL sg⟩
theorem Gy{G:Hp}{t:Addr}{d:aq}(h:eU G t d):DR K G (j1 d) (.ref t):=by
 obtain⟨s,h1,h2⟩:=h;unfold j1 DR;refine⟨t,_,rfl,b_.of h1,?_⟩;unfold DRs;refine⟨_,_,rfl,ph (K:=K) G,?_⟩;unfold DRs;refine⟨_,_,rfl,Gx (b_.of h2),?_⟩;unfold DRs;refine⟨_,_,rfl,ph (K:=K) G,?_⟩;unfold DRs
 rfl
theorem lT{G:Hp}:∀{ts:Ze}{ds:List aq},dg G ts ds->DRs K G (ds.map j1) (ts.map V.ref)
 |_,_,.nil=>by unfold DRs;rfl
 |_,_,.cons h r=>by
  rw[bf,bf];unfold DRs;exact⟨_,_,rfl,Gy h,lT r⟩
theorem Gw{G:Hp}{t l1 l2 l3 l4:Addr}{ts:Ze}{J0 J4 J5:Zb}{ds:List aq}(T:IJ G t l1 l2 l3 l4 ts J0 J4 J5 ds):DR K G (GS J0 J4 J5 ds) (.ref t):=by
 have ls:∀{l:Addr}{ws:Zb},G l=some (.lst (ws.map V.str))->DR K G (.s (ws.map aS)) (.ref l):=fun h=>by unfold DR;exact⟨_,_,rfl,h,iL _⟩
 unfold GS DR;refine⟨t,_,rfl,b_.of T.t,?_⟩;unfold DRs;refine⟨_,_,rfl,ls T.a1,?_⟩;unfold DRs;refine⟨_,_,rfl,ls T.a2,?_⟩;unfold DRs;refine⟨_,_,rfl,ls T.a3,?_⟩;unfold DRs;refine⟨_,_,rfl,by unfold DR;exact⟨_,_,rfl,T.a4,lT T.ds⟩,?_⟩;unfold DRs
 rfl
end
def mv(C:Addr)(J0 J4 J5:Zb)(ds:List aq):AV:=⟨fun G v=>∃x,v=.ref x/\fx C G x J0 J4 J5 ds,fun S ⟨x,e,h⟩=>⟨x,e,h.same S⟩⟩
inductive Sl where
 |no
 |im (a:AV)
 |lc (n:Nat)
 |pn
inductive Ce where
 |lst (xs:List Sl)
 |dk (kvs:List (d9×Sl))
 |dt (kvs:List (TK×Sl))
 |ins (C:Addr) (fs:List (Str×Sl))
 |fk (o:Obj) (l:List (d9×V)) (kvs:List (d9×Sl))
abbrev SH:=List (Nat×Ce)
structure Mp where
 G:Hp
 H:Hp
 ad:Nat->Addr
 P:Addr->Prop
def Ok(m:Mp)(h:SH):Sl->V->Prop
 |.no,_=>True
 |.im a,v=>a.p m.G v
 |.lc n,v=>(∃c,(n,c)∈h)/\v=.ref (m.ad n)
 |.pn,v=>∃p c o,v=.ref p/\m.P p/\m.G c=some o/\gU m.H p c
abbrev m5(m:Mp)(h:SH):List V->List Sl->Prop:=Paired fun v x=>Ok m h x v
def xH(m:Mp)(h:SH)(a:Addr):Ce->Prop
 |.lst xs=>∃vs,m.H a=some (.lst vs)/\m5 m h vs xs
 |.dk kvs=>∃vs,m.H a=some (.dK ((kvs.map (·.1)).zip vs))/\m5 m h vs (kvs.map (·.2))
 |.dt kvs=>∃vs,m.H a=some (.dT ((kvs.map (·.1)).zip vs))/\m5 m h vs (kvs.map (·.2))
 |.ins C fs=>∃dx vs,m.H a=some (.ins C dx ((fs.map (·.1)).zip vs))/\m5 m h vs (fs.map (·.2))
 |.fk o l kvs=>m.H a=some (.frz o (.dK l))/\Paired (fun(p:d9×V) (q:d9×Sl)=>p.1=q.1/\Ok m h q.2 p.2) l kvs
structure Wf(m:Mp)(h:SH):Prop where
 s:ae m.G m.H
 p:∀a,m.P a->m.G a=none/\m.H a≠none
 c:∀n c,(n,c)∈h->m.G (m.ad n)=none/\¬m.P (m.ad n)/\xH m h (m.ad n) c
 i:∀n c n' c',(n,c)∈h->(n',c')∈h->m.ad n=m.ad n'->n=n'
 u:(h.map (·.1)).Nodup
structure Bs where
 G:Hp
 H:Hp
 P:Addr->Prop
 M:Addr->Prop
 R:Addr->Prop
 N:List (Nat×Addr)
structure Fr(B:Bs)(m:Mp)(h:SH):Prop where
 gg:ae B.G m.G
 hh:∀a o,B.H a=some o->¬B.P a->¬B.M a->m.H a=some o
 al:∀a,B.H a≠none->m.H a≠none
 fr:∀a,m.G a≠none->B.G a≠none∨B.H a=none
 pe:∀p c o,B.P p->B.G c=some o->gU B.H p c->gU m.H p c
 pp:∀a,B.P a↔m.P a
 ow:∀n c,(n,c)∈h->B.H (m.ad n)=none∨B.M (m.ad n)∨B.R (m.ad n)
 nd:∀n a,(n,a)∈B.N->1000<=n/\m.ad n=a/\∃c,(n,c)∈h
structure Rw(B:Bs)(s:List Sl)(h:SH)(T:List Sl)(σ:L2.St)(vs:List V)(m:Mp):Prop where
 fr:Fr B m h
 wf:Wf m h
 len:s.length=σ.length
 sl:∀(i:Nat) (x:Sl),s[i]?=some x->x=.no∨∃v,σ[i]?=some (some v)/\Ok m h x v
 tm:m5 m h vs T
def A(B:Bs)(s:List Sl)(h:SH)(T:List Sl)(σ:L2.St)(vs:List V)(H:Hp):Prop:=∃m,m.H=H/\Rw B s h T σ vs m
theorem xH.some{m:Mp}{h:SH}{a:Addr}{c:Ce}(x:xH m h a c):∃o,m.H a=some o:=by
 cases c with
 |lst xs=>obtain⟨vs,e,_⟩:=x;exact⟨_,e⟩
 |dk xs=>obtain⟨vs,e,_⟩:=x;exact⟨_,e⟩
 |dt xs=>obtain⟨vs,e,_⟩:=x;exact⟨_,e⟩
 |ins C fs=>obtain⟨dx,vs,e,_⟩:=x;exact⟨_,e⟩
 |fk o l xs=>exact⟨_,x.1⟩
structure Mv(m:Mp)(h:SH)(m':Mp)(h':SH):Prop where
 gg:ae m.G m'.G
 s:ae m'.G m'.H
 hh:∀a o,m.H a=some o->¬m.P a->m'.H a=some o
 al:∀a,m.H a≠none->m'.H a≠none
 fr:∀a,m'.G a≠none->m.G a≠none∨m.H a=none
 pe:∀p c o,m.P p->m.G c=some o->gU m.H p c->gU m'.H p c
 pp:m'.P=m.P
 ad:∀n c,(n,c)∈h->m'.ad n=m.ad n
 nm:∀n c,(n,c)∈h->∃c',(n,c')∈h'
theorem Ok.mv{m m':Mp}{h h':SH}(M:Mv m h m' h'):∀{x:Sl}{v:V},Ok m h x v->Ok m' h' x v
 |.no,_,_=>eg
 |.im a,_,q=>a.mono M.gg q
 |.lc n,v,⟨⟨c,hc⟩,e⟩=>⟨M.nm n c hc,by rw[M.ad n c hc];exact e⟩
 |.pn,v,⟨p,c,o,h1,h2,h3,h4⟩=>⟨p,c,o,h1,by rw[M.pp];exact h2,M.gg _ _ h3,M.pe p c o h2 h3 h4⟩
theorem xH.mv{m m':Mp}{h h':SH}{a:Addr}{c:Ce}(M:Mv m h m' h')(ha:¬m.P a)(x:xH m h a c):xH m' h' a c:=by
 cases c with
 |lst xs=>obtain⟨vs,e,r⟩:=x;exact⟨vs,M.hh _ _ e ha,Paired.mapP r fun v x q=>Ok.mv M q⟩
 |dk xs=>obtain⟨vs,e,r⟩:=x;exact⟨vs,M.hh _ _ e ha,Paired.mapP r fun v x q=>Ok.mv M q⟩
 |dt xs=>obtain⟨vs,e,r⟩:=x;exact⟨vs,M.hh _ _ e ha,Paired.mapP r fun v x q=>Ok.mv M q⟩
 |ins C fs=>obtain⟨dx,vs,e,r⟩:=x;exact⟨dx,vs,M.hh _ _ e ha,Paired.mapP r fun v x q=>Ok.mv M q⟩
 |fk o l xs=>exact⟨M.hh _ _ x.1 ha,Paired.mapP x.2 fun v x q=>⟨q.1,Ok.mv M q.2⟩⟩
theorem Mv.refl{m:Mp}{h:SH}(S:ae m.G m.H):Mv m h m h:=⟨.refl _,S,fun _ _ e _=>e,fun _ e=>e,fun _ e=>.inl e,fun _ _ _ _ _ e=>e,rfl,fun _ _ _=>rfl,fun n c e=>⟨c,e⟩⟩
theorem Mv.trans{m m1 m2:Mp}{h h1 h2:SH}(a:Mv m h m1 h1)(b:Mv m1 h1 m2 h2):Mv m h m2 h2 :=
 ⟨a.gg.trans b.gg,b.s,fun x o e n=>b.hh x o (a.hh x o e n) (by rw[a.pp];exact n),fun x e=>b.al x (a.al x e),fun x e=>by
  rcases b.fr x e with e|e
  ·exact a.fr x e
  ·refine .inr ?_;cases q:m.H x with
   |none=>rfl
   |some u=>exact absurd e (a.al x (by rw[q];exact nofun)),fun p c o hp hc e=>b.pe p c o (by rw[a.pp];exact hp) (a.gg _ _ hc) (a.pe p c o hp hc e),b.pp.trans a.pp,fun n c e=>by
  obtain⟨c',e'⟩:=a.nm n c e;rw[b.ad n c' e',a.ad n c e],fun n c e=>by
  obtain⟨c',e'⟩:=a.nm n c e;exact b.nm n c' e'⟩
theorem Rw.mv{B:Bs}{s:List Sl}{h:SH}{T:List Sl}{σ:L2.St}{vs:List V}{m m':Mp}(R:Rw B s h T σ vs m)(M:Mv m h m' h):Rw B s h T σ vs m':=by
 refine⟨⟨R.fr.gg.trans M.gg,fun a o e n1 n2=>M.hh a o (R.fr.hh a o e n1 n2) (fun z=>n1 ((R.fr.pp a).mpr z)),fun a e=>M.al a (R.fr.al a e),fun a e=>?_,fun p c o hp hc e=>M.pe p c o ((R.fr.pp p).mp hp) (R.fr.gg _ _ hc) (R.fr.pe p c o hp hc e),fun a=>by rw[M.pp];exact R.fr.pp a,fun n c e=>by rw[M.ad n c e];exact R.fr.ow n c e,fun n a e=>by
   obtain⟨h1,h2,c,h3⟩:=R.fr.nd n a e;exact⟨h1,by rw[M.ad n c h3];exact h2,c,h3⟩⟩,
  ⟨M.s,fun a e=>?_,fun n c e=>?_,fun n c n' c' e e' z=>?_,R.wf.u⟩,R.len,fun i x e=>(R.sl i x e).imp id fun⟨v,e,q⟩=>⟨v,e,Ok.mv M q⟩,Paired.mapP R.tm fun v x q=>Ok.mv M q⟩
 ·rcases M.fr a e with e|e
  ·exact R.fr.fr a e
  ·refine .inr ?_;cases q:B.H a with
   |none=>rfl
   |some u=>exact absurd e (R.fr.al a (by rw[q];exact nofun))
 ·rw[M.pp]at e;obtain⟨h1,h2⟩:=R.wf.p a e;refine⟨?_,M.al a h2⟩;cases q:m'.G a with
  |none=>rfl
  |some u=>rcases M.fr a (by rw[q];exact nofun)with z|z;exact absurd h1 z;exact absurd z h2
 ·obtain⟨h1,h2,h3⟩:=R.wf.c n c e;rw[M.ad n c e];refine⟨?_,by rw[M.pp];exact h2,h3.mv M h2⟩;cases q:m'.G (m.ad n)with
  |none=>rfl
  |some u =>
   obtain⟨o,ho⟩:=h3.some;rcases M.fr _ (by rw[q];exact nofun)with z|z
   ·exact absurd h1 z
   ·rw[ho]at z;cases z
 ·rw[M.ad n c e,M.ad n' c' e']at z;exact R.wf.i n c n' c' e e' z
section
variable{B:Bs}{s:List Sl}{h:SH}{T:List Sl}{σ:L2.St}{vs:List V}{m:Mp}
theorem Rw.push(R:Rw B s h T σ vs m){x:Sl}{v:V}(q:Ok m h x v):A B s h (x::T) σ (v::vs) m.H:=⟨m,rfl,R.fr,R.wf,R.len,R.sl,.cons q R.tm⟩
theorem Rw.drop{x:Sl}{v:V}(R:Rw B s h (x::T) σ (v::vs) m):Rw B s h T σ vs m:=⟨R.fr,R.wf,R.len,R.sl,by cases R.tm with|cons _ r=>exact r⟩
theorem Rw.top{x:Sl}{v:V}(R:Rw B s h (x::T) σ (v::vs) m):Ok m h x v:=by cases R.tm with|cons q _=>exact q
theorem Rw.fresh(R:Rw B s h T σ vs m){l:Addr}(hl:m.H l=none):B.H l=none/\m.G l=none/\¬m.P l/\∀n c,(n,c)∈h->m.ad n≠l:=by
 refine⟨?_,R.wf.s.free hl,fun z=>(R.wf.p l z).2 hl,fun n c e z=>?_⟩
 ·cases q:B.H l with
  |none=>rfl
  |some u=>exact absurd hl (R.fr.al l (by rw[q];exact nofun))
 ·obtain⟨o,ho⟩:=(R.wf.c n c e).2.2.some;rw[z,hl]at ho;cases ho
theorem Mv.new{l:Addr}{o:HO}(S:ae m.G m.H)(hl:m.H l=none):Mv m h { m with G:=upd m.G l o,H:=upd m.H l o } h:=by
 have gl:m.G l=none:=S.free hl;refine⟨ae.new gl,fun b u e=>?_,fun a u e _=>kp e hl,fun a e=>?_,fun a e=>?_,fun p c _ _ _ e=>e.ex (ae.new hl),rfl,fun _ _ _=>rfl,fun n c e=>⟨c,e⟩⟩
 ·by_cases z:b=l
  ·subst z;have e':upd m.G b o b=some u:=e;rw[aa]at e';show upd m.H b o b=some u;rw[aa];exact e'
  ·have e':upd m.G l o b=some u:=e;rw[ai z]at e';show upd m.H l o b=some u;rw[ai z];exact S _ _ e'
 ·show upd m.H l o a≠none;by_cases z:a=l
  ·subst z;rw[aa];exact nofun
  ·rw[ai z];exact e
 ·by_cases z:a=l
  ·subst z;exact .inr hl
  ·have e':upd m.G l o a≠none:=e;rw[ai z]at e';exact .inl e'
def free(h:SH)(n:Nat):Prop:=n<1000/\∀c,(n,c)∉h
theorem Gp{h:SH}{n:Nat}(l:n<1000)(e:(h.map (·.1)).contains n=false):free h n:=⟨l,fun c z=>by
 have:n∈h.map (·.1):=aO.mpr ⟨(n,c),z,rfl⟩;have:=List.contains_iff_mem.mpr this;rw[e]at this;cases this⟩
theorem Rw.cell{l:Addr}{n:Nat}{c:Ce}{m':Mp}(R:Rw B s h T σ vs m)(M:Mv m h m' h)(fn:free h n)(hl:m.H l=none)(gl:m'.G l=none)(hc:xH { m' with ad:=fun k=>if k=n then l else m'.ad k } ((n,c)::h) l c):
  ∃m2:Mp,m2.H=m'.H/\m2.ad n=l/\Rw B s ((n,c)::h) T σ vs m2:=by
 have R1:=R.mv M;obtain⟨f1,f2,f3,f4⟩:=R.fresh hl
 let m2:Mp:={ m' with ad:=fun k=>if k=n then l else m'.ad k }
 have an:m2.ad n=l:=if_pos rfl;have ne:∀k ck,(k,ck)∈h->k≠n:=fun k ck e z=>fn.2 ck (by rw[<-z];exact e);have ak:∀k ck,(k,ck)∈h->m2.ad k=m'.ad k:=fun k ck e=>if_neg (ne k ck e);have M2:Mv m' h m2 ((n,c)::h):=⟨.refl _,R1.wf.s,fun _ _ e _=>e,fun _ e=>e,fun _ e=>.inl e,fun _ _ _ _ _ e=>e,rfl,ak,fun k ck e=>⟨ck,cj _ e⟩⟩;have pl:¬m'.P l:=by rw[M.pp];exact f3
 refine⟨m2,rfl,an,⟨R1.fr.gg,R1.fr.hh,R1.fr.al,R1.fr.fr,R1.fr.pe,R1.fr.pp,fun k ck e=>?_,fun k a e=>?_⟩,⟨R1.wf.s,R1.wf.p,fun k ck e=>?_,fun k ck k' ck' e e' z=>?_,?_⟩,R1.len,fun i x e=>(R1.sl i x e).imp id fun⟨v,e,q⟩=>⟨v,e,Ok.mv M2 q⟩,Paired.mapP R1.tm fun v x q=>Ok.mv M2 q⟩
 ·rcases bw.mp e with e|e
  ·cases e;rw[an];exact .inl f1
  ·rw[ak k ck e];exact R1.fr.ow k ck e
 ·obtain⟨h1,h2,ck,h3⟩:=R1.fr.nd k a e;exact⟨h1,by rw[ak k ck h3];exact h2,ck,cj _ h3⟩
 ·rcases bw.mp e with e|e
  ·cases e;rw[an];exact⟨gl,pl,hc⟩
  ·obtain⟨h1,h2,h3⟩:=R1.wf.c k ck e;rw[ak k ck e];exact⟨h1,h2,h3.mv M2 h2⟩
 ·rcases bw.mp e with e|e
  ·cases e;rcases bw.mp e' with e'|e'
   ·cases e';rfl
   ·rw[an,ak k' ck' e',M.ad k' ck' e']at z;exact absurd z.symm (f4 k' ck' e')
  ·rcases bw.mp e' with e'|e'
   ·cases e';rw[an,ak k ck e,M.ad k ck e]at z;exact absurd z (f4 k ck e)
   ·rw[ak k ck e,ak k' ck' e']at z;exact R1.wf.i k ck k' ck' e e' z
 ·rw[bf,ji];refine⟨fun z=>?_,R1.wf.u⟩;obtain⟨⟨k,ck⟩,e,ek⟩:=aO.mp z;exact ne k ck e ek
end
theorem nZ{h:SH}{n:Nat}{c:Ce}(e:h.lookup n=some c):(n,c)∈h:=by
 induction h with
 |nil=>cases e
 |cons p h ih =>
  obtain⟨k,ck⟩:=p;rw[g7]at e;by_cases z:n==k
  ·rw[z]at e;cases e;have:n=k:=by simpa using z
   subst this;exact cp
  ·have z':(n==k)=false:=by simpa using z
   rw[z']at e;exact cj _ (ih e)
def EV(s:List Sl)(h:SH)(t:TE)(φ:Sl->SH->Prop):Prop:=∀B T σ vs H Q,A B s h T σ vs H->(∀x v h' H',φ x h'->A B s h' (x::T) σ (v::vs) H'->Q v H')->t σ H Q
def ET(s:List Sl)(h:SH)(t:TT)(ψ:Bool->SH->Prop):Prop:=∀B T σ vs H Q,A B s h T σ vs H->(∀b h' H',ψ b h'->A B s h' T σ vs H'->Q b H')->t σ H Q
def EA(s:List Sl)(h:SH)(t:TA)(Φ:List Sl->SH->Prop):Prop:=∀B T σ vs H Q,A B s h T σ vs H->(∀xs us h' H',Φ xs h'->us.length=xs.length->A B s h' (xs++T) σ (us++vs) H'->Q us H')->t σ H Q
abbrev cR(K:Za)(d:DT):Sl:=.im (dv K d)
def lv(as:List AV):AV:=⟨fun G v=>∃a vs,v=.ref a/\G a=some (.lst vs)/\Paired (fun v (x:AV)=>x.p G v) vs as,fun S ⟨a,vs,e,h,r⟩=>⟨a,vs,e,S _ _ h,Paired.mapP r fun v x q=>x.mono S q⟩⟩
def tv(as:List AV):AV:=⟨fun G v=>∃a vs,v=.ref a/\G a=some (.tup vs)/\Paired (fun v (x:AV)=>x.p G v) vs as,fun S ⟨a,vs,e,h,r⟩=>⟨a,vs,e,S _ _ h,Paired.mapP r fun v x q=>x.mono S q⟩⟩
inductive C4(K:Za)(h:SH):Sl->Bool->List Sl->Prop
 |s {ds:List DT}:C4 K h (cR K (.s ds)) true (ds.map (cR K))
 |t {ds:List DT}:C4 K h (cR K (.t ds)) false (ds.map (cR K))
 |v {as:List AV}:C4 K h (.im (lv as)) true (as.map .im)
 |w {as:List AV}:C4 K h (.im (tv as)) false (as.map .im)
 |c {n:Nat}{xs:List Sl}(e:h.lookup n=some (.lst xs)):C4 K h (.lc n) true xs
inductive Ht(K:Za)(h:SH):Sl->Bool->List DT->Prop
 |s {ds:List DT}:Ht K h (cR K (.s ds)) true ds
 |t {ds:List DT}:Ht K h (cR K (.t ds)) false ds
 |c {n:Nat}{ds:List DT}(e:h.lookup n=some (.lst (ds.map (cR K)))):Ht K h (.lc n) true ds
theorem Ht.v{K:Za}{h:SH}{x:Sl}{b:Bool}{ds:List DT}(q:Ht K h x b ds):C4 K h x b (ds.map (cR K)):=by
 cases q with
 |s=>exact .s
 |t=>exact .t
 |c e=>exact .c e
inductive AH(K:Za)(h:SH):Sl->DT->Prop
 |d {d:DT}:AH K h (cR K d) d
 |c {n:Nat}{xs:List Sl}{ds:List DT}(e:h.lookup n=some (.lst xs)) (r:Paired (AH K h) xs ds):AH K h (.lc n) (.s ds)
inductive y_(K:Za):List Sl->List DT->Prop
 |nil:y_ K [] []
 |cons {d:DT}{xs:List Sl}{ds:List DT}:y_ K xs ds->y_ K (cR K d::xs) (d::ds)
inductive C7:List Sl->List AV->Prop
 |nil:C7 [] []
 |cons {a:AV}{xs:List Sl}{as:List AV}:C7 xs as->C7 (.im a::xs) (a::as)
section
variable{K:Za}{m:Mp}{h:SH}
theorem Br{ds:List DT}:∀{us:List V},DRs K m.G ds us->m5 m h us (ds.map (cR K)):=by
 induction ds with
 |nil=>intro us q;unfold DRs at q;subst q;exact .nil
 |cons d ds ih=>intro us q;unfold DRs at q;obtain⟨v,us,rfl,q1,q2⟩:=q;exact .cons q1 (ih q2)
theorem Hm:∀{ds:List DT}{us:List V},m5 m h us (ds.map (cR K))->DRs K m.G ds us
 |[],us,q=>by cases q;unfold DRs;rfl
 |d::ds,us,q=>by cases q with|cons q1 q2=>unfold DRs;exact⟨_,_,rfl,q1,Hm q2⟩
theorem Ex:∀{as:List AV}{us:List V},Paired (fun v (x:AV)=>x.p m.G v) us as->m5 m h us (as.map .im)
 |_,_,.nil=>.nil
 |_,_,.cons q r=>.cons q (Ex r)
theorem C4.view{x:Sl}{b:Bool}{xs:List Sl}{v:V}(q:C4 K h x b xs)(W:Wf m h)(o:Ok m h x v):∃a us,v=.ref a/\m5 m h us xs/\(b=true->m.H a=some (.lst us))/\(b=false->b_ K m.H a us):=by
 cases q with
 |@s ds =>
  have o':DR K m.G (.s ds) v:=o;unfold DR at o';obtain⟨a,us,e,h1,h2⟩:=o';exact⟨a,us,e,Br h2,fun _=>W.s _ _ h1,nofun⟩
 |@t ds =>
  have o':DR K m.G (.t ds) v:=o;unfold DR at o';obtain⟨a,us,e,h1,h2⟩:=o';exact⟨a,us,e,Br h2,nofun,fun _=>b_.same W.s h1⟩
 |v=>obtain⟨a,us,e,h1,h2⟩:=o;exact⟨a,us,e,Ex h2,fun _=>W.s _ _ h1,nofun⟩
 |w=>obtain⟨a,us,e,h1,h2⟩:=o;exact⟨a,us,e,Ex h2,nofun,fun _=>b_.of (W.s _ _ h1)⟩
 |c e =>
  obtain⟨_,rfl⟩:=o;obtain⟨_,_,us,h1,h2⟩:=W.c _ _ (nZ e);exact⟨_,us,rfl,h2,fun _=>h1,nofun⟩
theorem BA{x:Sl}{d:DT}(q:AH K h x d)(W:Wf m h):∀{v:V},Ok m h x v->kj K m.H d v:=by
 have key:∀(n:Nat) {x:Sl}{d:DT},d.depth<=n->AH K h x d->∀{v:V},Ok m h x v->kj K m.H d v:=by
  intro n
  induction n with
  |zero =>
   intro x d hd q v o;cases q with
   |d=>exact kj.same W.s (DR.dIn o)
   |c e r=>exact absurd hd (by show ¬(DT.depths _+1<=0);omega)
  |succ n ih =>
   intro x d hd q v o;cases q with
   |d=>exact kj.same W.s (DR.dIn o)
   |@c k xs ds e r =>
    obtain⟨_,rfl⟩:=o;obtain⟨_,_,us,h1,h2⟩:=W.c _ _ (nZ e);have hd':DT.depths ds<=n:=by have:DT.depths ds+1<=n+1:=hd;omega
    unfold kj;refine⟨_,us,rfl,aA.of h1,?_⟩;clear e h1 hd
    induction r generalizing us with
    |nil=>cases h2;unfold DIns;rfl
    |@cons y d' ys ds' q1 q2 ihr =>
     cases h2 with
     |cons o1 o2 =>
      have hd2:max (DT.depth d') (DT.depths ds')<=n:=hd';unfold DIns;exact⟨_,_,rfl,ih (by omega) q1 o1,ihr _ o2 (by omega)⟩
 exact fun{v} o=>key _ (aN _) q o
theorem y_.view{xs:List Sl}{ds:List DT}(q:y_ K xs ds):∀{us:List V},m5 m h us xs->DRs K m.G ds us:=by
 induction q with
 |nil=>intro us h;cases h;unfold DRs;rfl
 |cons _ ih=>intro us h;cases h with|cons h1 h2=>unfold DRs;exact⟨_,_,rfl,h1,ih h2⟩
theorem C7.view{xs:List Sl}{as:List AV}(q:C7 xs as):∀{us:List V},m5 m h us xs->Paired (fun v (x:AV)=>x.p m.G v) us as:=by
 induction q with
 |nil=>intro us h;cases h;exact .nil
 |cons _ ih=>intro us h;cases h with|cons h1 h2=>exact .cons h1 (ih h2)
end
theorem Paired.cut{R:V->Sl->Prop}:∀{us:List V}{xs:List Sl}{vs:List V}{T:List Sl},us.length=xs.length->Paired R (us++vs) (xs++T)->Paired R us xs/\Paired R vs T
 |[],[],_,_,_,h=>⟨.nil,h⟩
 |[],_::_,_,_,e,_=>by cases e
 |_::_,[],_,_,e,_=>by cases e
 |u::us,x::xs,_,_,e,h=>by
  cases h with
  |cons h1 h2=>obtain⟨g1,g2⟩:=Paired.cut (by simpa using e) h2;exact⟨.cons h1 g1,g2⟩
theorem Rw.args{B:Bs}{s:List Sl}{h:SH}{T:List Sl}{σ:L2.St}{vs:List V}{m:Mp}{xs:List Sl}{us:List V}(R:Rw B s h (xs++T) σ (us++vs) m)(e:us.length=xs.length):m5 m h us xs/\Rw B s h T σ vs m:=by
 obtain⟨h1,h2⟩:=Paired.cut e R.tm;exact⟨h1,R.fr,R.wf,R.len,R.sl,h2⟩
def C9(K:Za)(h:SH)(φ:Sl->SH->Prop)(xs:List Sl):Prop:=(∃ds,y_ K xs ds/\φ (cR K (.s ds)) h)∨(∃as,C7 xs as/\φ (.im (lv as)) h)∨∃n,(n<1000/\(h.map (·.1)).contains n=false)/\φ (.lc n) ((n,.lst xs)::h)
theorem yY{K:Za}:∀ds:List DT,y_ K (ds.map (cR K)) ds
 |[]=>.nil
 |d::ds=>.cons (yY ds)
section
variable{B:Bs}{s:List Sl}{h:SH}{T:List Sl}{σ:L2.St}{vs:List V}{m m':Mp}
theorem Rw.adopt{K:Za}{φ:Sl->SH->Prop}{xs:List Sl}{us:List V}{l:Addr}(R:Rw B s h T σ vs m)(M:Mv m h m' h)(hl:m.H l=none)(gl:m'.G l=none)(e:m'.H l=some (.lst us))(hd:m5 m' h us xs)(q:C9 K h φ xs):∃x h',φ x h'/\A B s h' (x::T) σ (.ref l::vs) m'.H:=by
 have M':Mv m h { m' with G:=upd m'.G l (.lst us) } h:=⟨M.gg.trans (ae.new gl),fun b u q=>by
   have q':upd m'.G l (.lst us) b=some u:=q;by_cases z:b=l
   ·subst z;rw[aa]at q';rw[<-q'];exact e
   ·rw[ai z]at q';exact M.s _ _ q',M.hh,M.al,fun b q=>by
   have q':upd m'.G l (.lst us) b≠none:=q;by_cases z:b=l
   ·subst z;exact .inr hl
   ·rw[ai z]at q';exact M.fr b q',M.pe,M.pp,M.ad,M.nm⟩
 rcases q with⟨ds,a,q⟩|⟨as,a,q⟩|⟨n,fn,q⟩
 ·refine⟨_,_,q,(R.mv M').push ?_⟩;show DR K (upd m'.G l (.lst us)) (.s ds) (.ref l);unfold DR;exact⟨l,us,rfl,aa,DRs.same (ae.new gl) (a.view hd)⟩
 ·refine⟨_,_,q,(R.mv M').push ?_⟩;exact⟨l,us,rfl,aa,Paired.mapP (a.view hd) fun v x r=>x.mono (ae.new gl) r⟩
 ·have fr:=Gp fn.1 fn.2;obtain⟨f1,f2,f3,f4⟩:=R.fresh hl;have M2:Mv m' h { m' with ad:=fun k=>if k=n then l else m'.ad k } ((n,.lst xs)::h):=⟨.refl _,M.s,fun _ _ e _=>e,fun _ e=>e,fun _ e=>.inl e,fun _ _ _ _ _ e=>e,rfl,fun k ck z=>if_neg (fun y=>fr.2 ck (by rw[<-y];exact z)),fun k ck z=>⟨ck,cj _ z⟩⟩
  obtain⟨m2,e2,a2,R2⟩:=R.cell (c:=.lst xs) M fr hl gl ⟨us,e,Paired.mapP hd fun v x r=>Ok.mv M2 r⟩;refine⟨_,_,q,?_⟩;rw[<-e2];exact R2.push ⟨⟨_,cp⟩,by rw[a2]⟩
theorem Mv.newO{l:Addr}{o:HO}(S:ae m.G m.H)(hl:m.H l=none):Mv m h { m with H:=upd m.H l o } h:=by
 refine⟨.refl _,S.trans (ae.new hl),fun a u e _=>kp e hl,fun a e=>?_,fun a e=>.inl e,fun p c _ _ _ e=>e.ex (ae.new hl),rfl,fun _ _ _=>rfl,fun n c e=>⟨c,e⟩⟩;show upd m.H l o a≠none;by_cases z:a=l
 ·subst z;rw[aa];exact nofun
 ·rw[ai z];exact e
theorem Rw.newLst{K:Za}{φ:Sl->SH->Prop}{xs:List Sl}{us:List V}{l:Addr}(R:Rw B s h T σ vs m)(hl:m.H l=none)(hd:m5 m h us xs)(q:C9 K h φ xs):∃x h',φ x h'/\A B s h' (x::T) σ (.ref l::vs) (upd m.H l (.lst us)) :=
 R.adopt (m':={ m with H:=upd m.H l (.lst us) }) (Mv.newO R.wf.s hl) hl (R.wf.s.free hl) aa (Paired.mapP hd fun v x r=>Ok.mv (Mv.newO R.wf.s hl) r) q
theorem A.drop{H:Hp}{x:Sl}{v:V}(a:A B s h (x::T) σ (v::vs) H):A B s h T σ vs H:=let⟨m,e,R⟩:=a;⟨m,e,R.drop⟩
theorem A.pushI{H:Hp}(a:A B s h T σ vs H){x:AV}{v:V}(q:∀G,x.p G v):A B s h (.im x::T) σ (v::vs) H:=let⟨m,e,R⟩:=a;⟨m,e,R.fr,R.wf,R.len,R.sl,.cons (q m.G) R.tm⟩
end
section
variable{K:Za}{s:List Sl}{h:SH}{φ:Sl->SH->Prop}{ψ:Bool->SH->Prop}{Φ:List Sl->SH->Prop}{ta tb te:TE}{i:Nat}
theorem aF{x:Sl}(e:s[i]?=some x)(q:φ x h)(hx:x≠.no:=by exact nofun):EV s h (lW i) φ:=by
 intro B T σ vs H Q a k;obtain⟨m,rfl,R⟩:=a;rcases R.sl i x e with z|⟨v,e2,o⟩
 ·exact absurd z hx
 ·exact⟨v,e2,k x v h _ q (R.push o)⟩
theorem gr{w:Str}(q:φ (cR K (aS w)) h):EV s h (tC (.str w)) φ:=fun B T σ vs H Q a k=>k _ _ _ _ q (a.pushI (ph (K:=K)))
theorem yO{b:Bool}(q:φ (.im (bv b)) h):EV s h (tC (.bl b)) φ:=fun B T σ vs H Q a k=>k _ _ _ _ q (a.pushI fun G=>rfl)
theorem gu(q:Φ [] h):EA s h bF Φ:=fun B T σ vs H Q a k=>k [] [] h H q rfl a
theorem cE{tr:TA}(q:EV s h ta fun x h1=>EA s h1 tr fun xs h2=>Φ (x::xs) h2):EA s h (az ta tr) Φ:=by
 intro B T σ vs H Q a k;refine q B T σ vs H _ a fun x v h1 H1 q1 a1=>q1 B _ σ _ H1 _ a1 fun xs us h2 H2 q2 hl a2=>k (x::xs) (v::us) h2 H2 q2 (by simp[hl]) ?_;obtain⟨m,e,R⟩:=a2;refine⟨m,e,R.fr,R.wf,R.len,R.sl,?_⟩;have sp:∀(xs:List Sl) (us:List V),us.length=xs.length->m5 m h2 (us++v::vs) (xs++x::T)->m5 m h2 (v::us++vs) (x::xs++T):=by
  intro xs
  induction xs with
  |nil=>intro us hl h;cases us with|nil=>exact h|cons _ _=>cases hl
  |cons y xs ih =>
   intro us hl h;cases us with
   |nil=>cases hl
   |cons u us =>
    cases h with
    |cons h1 h2 =>
     have:=ih us (by simpa using hl) h2;cases this with
     |cons g1 g2=>exact .cons g1 (.cons h1 g2)
 exact sp xs us hl R.tm
theorem zo{B:Bs}{T:List Sl}{σ:L2.St}{vs:List V}{H:Hp}{b:Bool}{v:V}(a:A B s h (.im (bv b)::T) σ (v::vs) H):v=.bl b/\A B s h T σ vs H:=by
 obtain⟨m,e,R⟩:=a;exact⟨R.top,m,e,R.drop⟩
theorem A7{B:Bs}{T:List Sl}{σ:L2.St}{vs:List V}{H:Hp}{n:Int}{v:V}(a:A B s h (cR K (IU n)::T) σ (v::vs) H):v=.int n/\A B s h T σ vs H:=by
 obtain⟨m,e,R⟩:=a;have:DR K m.G (IU n) v:=R.top;unfold DR at this;exact⟨this,m,e,R.drop⟩
theorem A6{B:Bs}{T:List Sl}{σ:L2.St}{vs:List V}{H:Hp}{n:Str}{v:V}(a:A B s h (cR K (aS n)::T) σ (v::vs) H):v=.str n/\A B s h T σ vs H:=by
 obtain⟨m,e,R⟩:=a;have:DR K m.G (aS n) v:=R.top;unfold aS DR at this;exact⟨this,m,e,R.drop⟩
theorem jZ(q:EV s h te fun x h1=>∃b,x=.im (bv b)/\ψ b h1):ET s h (tB te) ψ:=by
 intro B T σ vs H Q a k;refine q B T σ vs H _ a fun x v h1 H1 ⟨b,e,q1⟩ a1=>?_;subst e;obtain⟨e,a2⟩:=zo a1;exact⟨b,e,k b h1 H1 q1 a2⟩
theorem Gv(q:EV s h te fun x h1=>∃b,x=.im (bv b)/\ψ b h1):ET s h (bx te) ψ:=jZ q
theorem Fd{t:TT}(q:ET s h t fun b h1=>ψ (!b) h1):ET s h (sw t) ψ:=fun B T σ vs H Q a k=>q B T σ vs H _ a fun b h1 H1 q1 a1=>k (!b) h1 H1 q1 a1
theorem wV{t u:TT}(q:ET s h t fun b h1=>if b=true then ET s h1 u ψ else ψ false h1):ET s h (zM t u) ψ:=by
 intro B T σ vs H Q a k;refine q B T σ vs H _ a fun b h1 H1 q1 a1=>?_;cases b with
 |true=>exact bE ((if_pos rfl).mp q1 B T σ vs H1 Q a1 k)
 |false=>exact bu (k false h1 H1 ((if_neg nofun).mp q1) a1)
theorem wU(q:ψ true h):ET s h ju ψ:=fun B T σ vs H Q a k=>k true h H q a
theorem wT(q:EV s h ta fun x h1=>∃b,x=.im (bv b)/\if b=true then EV s h1 tb φ else φ (.im (bv false)) h1):EV s h (iC ta tb) φ:=by
 intro B T σ vs H Q a k;refine q B T σ vs H _ a fun x u h1 H1 ⟨b,e,q1⟩ a1=>?_;subst e;obtain⟨e,a2⟩:=zo a1;refine⟨b,e,?_⟩;cases b with
 |true=>exact bE ((if_pos rfl).mp q1 B T σ vs H1 Q a2 k)
 |false=>exact bu (k _ _ h1 H1 ((if_neg nofun).mp q1) (a2.pushI fun G=>rfl))
theorem Gr(q:EV s h ta fun x h1=>∃b,x=.im (bv b)/\φ (.im (bv (!b))) h1):EV s h (Dq ta) φ:=by
 intro B T σ vs H Q a k;refine q B T σ vs H _ a fun x u h1 H1 ⟨b,e,q1⟩ a1=>?_;subst e;obtain⟨e,a2⟩:=zo a1;exact⟨b,e,k _ _ h1 H1 q1 (a2.pushI fun G=>rfl)⟩
inductive xD:Sl->Bool->Prop
 |n:xD (.im nv) true
 |b {b:Bool}:xD (.im (bv b)) false
 |c {n:Nat}:xD (.lc n) false
 |d {K:Za}{d:DT}:xD (cR K d) false
 |l {as:List AV}:xD (.im (lv as)) false
 |t {as:List AV}:xD (.im (tv as)) false
theorem xD.view{x:Sl}{b:Bool}(q:xD x b){m:Mp}{v:V}(o:Ok m h x v):decide (v=.non)=b:=by
 cases q with
 |n=>exact zzr1 o
 |b=>have o':v=.bl _:=o;subst o';rfl
 |c=>obtain⟨_,rfl⟩:=o;rfl
 |@d K d =>
  have o':DR K m.G d v:=o;cases d with
  |k a=>unfold DR at o';subst o';cases a<;>rfl
  |t l=>unfold DR at o';obtain⟨_,_,rfl,_⟩:=o';rfl
  |s l=>unfold DR at o';obtain⟨_,_,rfl,_⟩:=o';rfl
 |l=>obtain⟨_,_,rfl,_⟩:=o;rfl
 |t=>obtain⟨_,_,rfl,_⟩:=o;rfl
theorem Iw(q:EV s h ta fun x h1=>∃b,xD x b/\φ (.im (bv b)) h1):EV s h (Dt ta) φ:=by
 intro B T σ vs H Q a k;refine q B T σ vs H _ a fun x u h1 H1 ⟨b,e,q1⟩ a1=>?_;obtain⟨m,rfl,R⟩:=a1;rw[e.view R.top];exact k _ _ h1 _ q1 (R.drop.push rfl)
theorem pN(q:EV s h ta fun x h1=>EV s h1 tb fun y h2=>∃ds es,Ht K h2 x true ds/\Ht K h2 y true es/\ds.length+es.length<=aj/\C9 K h2 φ ((ds++es).map (cR K))):EV s h (aK uo ta tb) φ:=by
 intro B T σ vs H Q a k;refine q B T σ vs H _ a fun x u h1 H1 q1 a1=>q1 B _ σ _ H1 _ a1 fun y v h2 H2 q2 a2=>?_;obtain⟨ds,es,i1,i2,hz,c⟩:=q2;obtain⟨m,rfl,R⟩:=a2;obtain⟨p,us,rfl,hd,g1,_⟩:=i1.v.view R.wf R.drop.top;obtain⟨p',us',rfl,hd',g1',_⟩:=i2.v.view R.wf R.top;have l1:=Paired.length hd;have l2:=Paired.length hd';rw[am]at l1 l2;refine⟨p,p',us,us',rfl,rfl,g1 rfl,g1' rfl,by omega,fun l hl=>?_⟩;obtain⟨z,h',hz,a3⟩:=R.drop.drop.newLst hl (by rw[aQ];exact Paired.app hd hd') c;exact k z _ h' _ hz a3
theorem Fc(q:EV s h ta fun x h1=>EV s h1 tb fun y h2=>∃d e,AH K h2 x d/\AH K h2 y e/\d.depth<=8/\e.depth<=8/\φ (.im (bv (decide (d=e)))) h2):EV s h (aK (um K) ta tb) φ:=by
 intro B T σ vs H Q a k;refine q B T σ vs H _ a fun x u h1 H1 q1 a1=>q1 B _ σ _ H1 _ a1 fun y v h2 H2 q2 a2=>?_;obtain⟨d,e,i1,i2,z1,z2,c⟩:=q2;obtain⟨m,rfl,R⟩:=a2;exact⟨d,e,BA i1 R.wf R.drop.top,BA i2 R.wf R.top,z1,z2,k _ _ h2 _ c (R.drop.drop.push rfl)⟩
theorem IA(i j:Int):decide (V.int i=V.int j)=decide (i=j):=by
 rw[p9,decide_eq_true_iff,decide_eq_true_iff];exact⟨fun z=>by injection z,fun z=>by rw[z]⟩
theorem Iv(q:EV s h ta fun x h1=>EV s h1 tb fun y h2=>∃i j:Int,x=cR K (IU i)/\y=cR K (IU j)/\φ (.im (bv (!decide (i=j)))) h2):EV s h (aK HS ta tb) φ:=by
 intro B T σ vs H Q a k;refine q B T σ vs H _ a fun x u h1 H1 q1 a1=>q1 B _ σ _ H1 _ a1 fun y v h2 H2 q2 a2=>?_;obtain⟨i,j,rfl,rfl,c⟩:=q2;obtain⟨rfl,a3⟩:=A7 a2;obtain⟨rfl,a4⟩:=A7 a3;refine⟨rfl,?_⟩;rw[IA];exact k _ _ h2 _ c (a4.pushI fun G=>rfl)
theorem As{t:TA}(q:EA s h t fun xs h1=>∃ds,y_ K xs ds/\xs.length<=aj/\φ (cR K (.t ds)) h1):EV s h (dZ t) φ:=by
 intro B T σ vs H Q a k;refine q B T σ vs H _ a fun xs us h1 H1 ⟨ds,al,z,c⟩ hl a1=>?_;obtain⟨m,rfl,R⟩:=a1;obtain⟨g1,R1⟩:=R.args hl;refine⟨by rw[hl];exact z,fun p hp=>k _ _ h1 _ c ((R1.mv (Mv.new (o:=.tup us) R1.wf.s hp)).push ?_)⟩;show DR K (upd m.G p (.tup us)) (.t ds) (.ref p);unfold DR;exact⟨p,us,rfl,b_.of aa,DRs.same (ae.new (R1.wf.s.free hp)) (al.view g1)⟩
theorem mN{t:TA}(q:EA s h t fun xs h1=>xs.length<=aj/\C9 K h1 φ xs):EV s h (eI t) φ:=by
 intro B T σ vs H Q a k;refine q B T σ vs H _ a fun xs us h1 H1 ⟨z,c⟩ hl a1=>?_;obtain⟨m,rfl,R⟩:=a1;obtain⟨g1,R1⟩:=R.args hl;refine⟨by rw[hl];exact z,fun p hp=>?_⟩;obtain⟨z,h',hz,a3⟩:=R1.newLst hp g1 c;exact k z _ h' _ hz a3
theorem Fa{t:TE}(q:EV s h t fun x h1=>∃b xs,C4 K h1 x b xs/\φ (cR K (IU xs.length)) h1):EV s h (dD (cV K) (az t bF)) φ:=by
 intro B T σ vs H Q a k;refine q B T σ vs H _ a fun x v h1 H1 ⟨b,xs,iv,c⟩ a1=>?_;obtain⟨m,rfl,R⟩:=a1;obtain⟨p,us,rfl,hd,g1,g2⟩:=iv.view R.wf R.top;refine .inl ⟨p,us,rfl,?_,?_⟩
 ·cases b with
  |true=>exact .inl (aA.of (g1 rfl))
  |false=>exact .inr (g2 rfl)
 ·rw[Paired.length hd];exact k _ _ h1 _ c (R.drop.push (HK (K:=K) m.G))
theorem Gu{t:TE}(q:EV s h t fun x h1=>∃b xs,C4 K h1 x b xs/\C9 K h1 φ xs):EV s h (dD (fL K) (az t bF)) φ:=by
 intro B T σ vs H Q a k;refine q B T σ vs H _ a fun x v h1 H1 ⟨b,xs,iv,c⟩ a1=>?_;obtain⟨m,rfl,R⟩:=a1;obtain⟨p,us,rfl,hd,g1,g2⟩:=iv.view R.wf R.top;refine .inl ⟨p,us,rfl,?_,fun l hl=>?_⟩
 ·cases b with
  |true=>exact .inl (aA.of (g1 rfl))
  |false=>exact .inr (g2 rfl)
 ·obtain⟨z,h',hz,a4⟩:=R.drop.newLst hl hd c;exact k z _ h' _ hz a4
end
abbrev IG(m:Mp)(h:SH)(N:List (Nat×Addr)):Bs:=⟨m.G,m.H,m.P,fun a=>∃n c,(n,c)∈h/\m.ad n=a,fun _=>False,N⟩
def Fin(m:Mp)(h:SH)(Q:VK)(φ:Sl->SH->Prop):Prop:=∀r v h' m',φ r h'->Fr (IG m h (h.map fun p=>(p.1,m.ad p.1))) m' h'->Wf m' h'->Ok m' h' r v->Q v m'.H
def Cn(sp:Sp)(xs:List Sl)(h:SH)(φ:Sl->SH->Prop):Prop:=∀us m Q E,(∀n c,(n,c)∈h->1000<=n)->Wf m h->m5 m h us xs->Fin m h Q φ->sp us m.H Q E
theorem Cn.imp{sp:Sp}{xs:List Sl}{h:SH}{φ φ':Sl->SH->Prop}(c:Cn sp xs h φ)(q:∀r h',φ r h'->φ' r h'):Cn sp xs h φ':=fun us m Q E hn W o f=>c us m Q E hn W o fun r v h' m' hr=>f r v h' m' (q r h' hr)
def plain:Sl->Prop
 |.im _=>True
 |.pn=>True
 |_=>False
def Res(K:Za)(h:SH)(φ:Sl->SH->Prop)(r:Sl)(h':SH):Prop:=(∃a,r=.im a/\φ r h)∨∃n xs,r=.lc n/\h'.lookup n=some (.lst xs)/\(∀x∈xs,plain x)/\C9 K h φ xs
theorem Ey{m m':Mp}{h h':SH}{x:Sl}{v:V}(hx:plain x)(hG:m'.G=m.G)(hH:m'.H=m.H)(hP:m'.P=m.P)(o:Ok m h x v):Ok m' h' x v:=by
 cases x with
 |no=>exact eg
 |im a=>show a.p m'.G v;rw[hG];exact o
 |lc n=>exact hx.elim
 |pn=>obtain⟨p,c,o,h1,h2,h3,h4⟩:=o;exact⟨p,c,o,h1,by rw[hP];exact h2,by rw[hG];exact h3,by rw[hH];exact h4⟩
theorem Wf.nil{m:Mp}{h:SH}(W:Wf m h):Wf m []:=⟨W.s,W.p,(fun _ _ e=>nomatch e),(fun _ _ _ _ e=>nomatch e),ix⟩
theorem lQ{m m':Mp}{h h':SH}(hG:m'.G=m.G)(hH:m'.H=m.H)(hP:m'.P=m.P):∀{us:List V}{xs:List Sl},(∀x∈xs,plain x)->m5 m h us xs->m5 m' h' us xs
 |_,_,_,.nil=>.nil
 |_,_,hx,.cons o r=>.cons (Ey (hx _ cp) hG hH hP o) (lQ hG hH hP (fun x hx'=>hx x (cj _ hx')) r)
section
variable{K:Za}{B:Bs}{s:List Sl}{h:SH}{T:List Sl}{σ:L2.St}{vs:List V}{φ:Sl->SH->Prop}
theorem Fr.mv0{m m':Mp}{h h' h0:SH}{N:List (Nat×Addr)}{M:Addr->Prop}{R:Addr->Prop}(F:Fr ⟨m.G,m.H,m.P,M,R,N⟩ m' h')(W:Wf m' h')(hM:∀a,¬M a):Mv m h { m' with ad:=m.ad } h :=
 ⟨F.gg,W.s,fun a o e n=>F.hh a o e n (hM a),F.al,F.fr,F.pe,by funext a;exact propext (F.pp a).symm,fun _ _ _=>rfl,fun n c e=>⟨c,e⟩⟩
theorem vd{sp:Sp}{H:Hp}{Q:VK}{E:XK}{xs:List Sl}{us:List V}(hp:∀x∈xs,plain x)(c:Cn sp xs [] (Res K h φ))(hl:us.length=xs.length)(a:A B s h (xs++T) σ (us++vs) H)
  (k:∀x v h' H',φ x h'->A B s h' (x::T) σ (v::vs) H'->Q v H'):sp us H Q E:=by
 obtain⟨m,rfl,R⟩:=a;obtain⟨g1,R1⟩:=R.args hl;refine c us m Q E (fun _ _ e=>nomatch e) R1.wf.nil (lQ rfl rfl rfl hp g1) fun r v h' m' q F W o=>?_;have nM:∀a,¬∃n c,(n,c)∈([]:SH)/\m.ad n=a:=fun a ⟨_,_,e,_⟩=>nomatch e;have M:Mv m h { m' with ad:=m.ad } h:=Fr.mv0 (h0:=[]) F W nM;rcases q with⟨x,rfl,q⟩|⟨n,ys,rfl,lk,hy,q⟩
 ·exact k _ _ h _ q ((R1.mv M).push o)
 ·obtain⟨_,rfl⟩:=o;obtain⟨gn,_,ws,e,os⟩:=W.c _ _ (nZ lk);have fr:m.H (m'.ad n)=none:=by
   rcases F.ow _ _ (nZ lk)with z|z|z
   ·exact z
   ·exact absurd z (nM _)
   ·exact z.elim
  obtain⟨x,h2,hx,a2⟩:=R1.adopt M fr gn e (lQ (m:=m') (m':={ m' with ad:=m.ad }) rfl rfl rfl hy os) q;exact k x _ h2 _ hx a2
theorem BJ{sp:Sp}{t:TA}(q:EA s h t fun xs h1=>(∀x∈xs,plain x)/\Cn sp xs [] (Res K h1 φ)):EV s h (aR sp t) φ:=by
 intro B T σ vs H Q a k;refine q B T σ vs H _ a fun xs us h1 H1 ⟨hp,c⟩ hl a1=>?_;rw[fD];exact vd hp c hl a1 k
def JN(C:Addr)(m:Str)(x:AV):Prop:=∀G v,x.p G v->∃a dx fs,v=.ref a/\G a=some (.ins C dx fs)/\fs.lookup m=none
theorem Gs{C:Addr}{mt:Str}{sp:Sp}{t:TA}{te:TE}(q:EV s h te fun x h1=>∃a,x=.im a/\JN C mt a/\EA s h1 t fun xs h2=>(∀x∈xs,plain x)/\Cn sp (.im a::xs) [] (Res K h2 φ)):EV s h (jv C mt sp [] E0 te t) φ:=by
 intro B T σ vs H Q a k;refine q B T σ vs H _ a fun x v h1 H1 ⟨av,e,hi,q1⟩ a1=>?_;subst e;obtain⟨m,rfl,R⟩:=a1;obtain⟨ad,dx,fs,rfl,g1,g2⟩:=hi m.G v R.top;refine⟨ad,dx,fs,rfl,R.wf.s _ _ g1,g2,q1 B _ σ _ _ _ ⟨m,rfl,R⟩ fun xs us h2 H2 ⟨hp,c⟩ hl a2=>?_⟩;rw[fD];have a3:A B s h2 ((.im av::xs)++T) σ ((.ref ad::us)++vs) H2:=by
  obtain⟨m,e,R⟩:=a2;refine⟨m,e,R.fr,R.wf,R.len,R.sl,?_⟩;obtain⟨p1,p2⟩:=Paired.cut hl R.tm;cases p2 with
  |cons q1 q2=>exact .cons q1 (Paired.app p1 q2)
 exact vd (xs:=.im av::xs) (fun x hx=>by rcases bw.mp hx with e|e;subst e;exact eg;exact hp x e) c (by simp[hl]) a3 k
end
def EG(s:List Sl)(h:SH)(x:Sl)(g:TG)(Ψ:List Sl->SH->Prop):Prop:=∀B T σ vs v H Q,A B s h (x::T) σ (v::vs) H->(∀s' σ' h' H',Ψ s' h'->A B s' h' T σ' vs H'->Q σ' H')->g v σ H Q
def JQ(s:List Sl)(h:SH)(xs:List Sl)(g:xK)(Ψ:List Sl->SH->Prop):Prop:=∀B T σ vs us H Q,A B s h (xs++T) σ (us++vs) H->us.length=xs.length->(∀s' σ' h' H',Ψ s' h'->A B s' h' T σ' vs H'->Q σ' H')->g us σ H Q
section
variable{K:Za}{s:List Sl}{h:SH}{Ψ:List Sl->SH->Prop}
theorem bA{x:Sl}{i:Nat}(q:Ψ (s.set i x) h):EG s h x (d4 i) Ψ:=by
 intro B T σ vs v H Q a k;obtain⟨m,e,R⟩:=a;refine k _ _ h H q ⟨m,e,R.drop.fr,R.drop.wf,by rw[vO,vO];exact R.len,fun j y hj=>?_,R.drop.tm⟩;rw[List.getElem?_set]at hj;by_cases z:i=j
 ·subst z;rw[if_pos rfl]at hj;by_cases l:i<s.length
  ·rw[if_pos l]at hj;cases hj;refine .inr ⟨v,?_,R.top⟩;rw[List.getElem?_set,if_pos rfl,if_pos (by rw[<-R.len];exact l)]
  ·rw[if_neg l]at hj;cases hj
 ·rw[if_neg z]at hj;refine(R.sl j y hj).imp id fun⟨w,e,o⟩=>⟨w,?_,o⟩;rw[List.getElem?_set,if_neg z];exact e
theorem n_(q:Ψ s h):JQ s h [] g_ Ψ:=by
 intro B T σ vs us H Q a hl k;cases us with
 |nil=>exact⟨rfl,k s σ h H q a⟩
 |cons _ _=>cases hl
theorem de{x:Sl}{xs:List Sl}{g:TG}{gs:xK}(q:EG s h x g fun s' h'=>JQ s' h' xs gs Ψ):JQ s h (x::xs) (be g gs) Ψ:=by
 intro B T σ vs us H Q a hl k;cases us with
 |nil=>cases hl
 |cons u us=>exact⟨u,us,rfl,q B _ σ _ u H _ a fun s' σ' h' H' q' a'=>q' B T σ' vs us H' Q a' (by simpa using hl) k⟩
theorem BK{x:Sl}{xs:List Sl}{n:Nat}{gs:xK}(iv:C4 K h x false xs)(hn:xs.length=n)(q:JQ s h xs gs Ψ):EG s h x (ic K n gs) Ψ:=by
 intro B T σ vs v H Q a k;obtain⟨m,rfl,R⟩:=a;obtain⟨b,us,rfl,hd,_,g2⟩:=iv.view R.wf R.top;exact⟨b,us,rfl,g2 rfl,by rw[Paired.length hd];exact hn,q B T σ vs us _ Q ⟨m,rfl,R.fr,R.wf,R.len,R.sl,Paired.app hd R.drop.tm⟩ (Paired.length hd) k⟩
theorem wX{ds:List DT}{n:Nat}{gs:xK}(hn:ds.length=n)(q:JQ s h (ds.map (cR K)) gs Ψ):EG s h (cR K (.t ds)) (ic K n gs) Ψ:=BK .t (by rw[am];exact hn) q
end
structure IZ(G:Hp)(J:It)(n:Nat)(el:Nat->AV):Prop where
 go:∀i G2 H2,i<n->ae G G2->ae G2 H2->J.go i H2
 st:∀G2 H2,ae G G2->ae G2 H2->J.stop n H2
 yl:∀i (m:Mp) (h:SH) x H3,i<n->ae G m.G->ae m.G m.H->J.yld i m.H x H3->∃m3:Mp,m3.H=H3/\Mv m h m3 h/\(el i).p m3.G x
theorem IZ.mono{G G':Hp}{J:It}{n:Nat}{el:Nat->AV}(S:ae G G')(h:IZ G J n el):IZ G' J n el:=⟨fun i G2 H2 hi s=>h.go i G2 H2 hi (S.trans s),fun G2 H2 s=>h.st G2 H2 (S.trans s),fun i m hh x H3 hi s=>h.yl i m hh x H3 hi (S.trans s)⟩
def DA(J:It)(n:Nat)(el:Nat->AV):AV:=⟨fun G _=>IZ G J n el,fun S h=>h.mono S⟩
def EI(s:List Sl)(h:SH)(wi:L2.TI)(Θ:Nat->(Nat->AV)->SH->Prop):Prop:=∀B T σ vs H R,A B s h T σ vs H->(∀n el J h1 m,Θ n el h1->Rw B s h1 T σ vs m->IZ m.G J n el->R J m.H)->wi σ H R
def Au(as:List AV)(i:Nat):AV:=as.getD i nv
section
variable{K:Za}{s:List Sl}{h:SH}{φ:Sl->SH->Prop}{Θ:Nat->(Nat->AV)->SH->Prop}{te:TE}
inductive C5(K:Za):AV->Bool->List AV->Prop
 |s {ds:List DT}:C5 K (dv K (.s ds)) true (ds.map (dv K))
 |t {ds:List DT}:C5 K (dv K (.t ds)) false (ds.map (dv K))
 |v {as:List AV}:C5 K (lv as) true as
 |w {as:List AV}:C5 K (tv as) false as
theorem Hg{G:Hp}{ds:List DT}{us:List V}(q:DRs K G ds us):Paired (fun v (x:AV)=>x.p G v) us (ds.map (dv K)):=by
 induction ds generalizing us with
 |nil=>unfold DRs at q;subst q;exact .nil
 |cons d ds ih=>unfold DRs at q;obtain⟨v,us,rfl,q1,q2⟩:=q;exact .cons q1 (ih q2)
theorem C5.view{a:AV}{b:Bool}{as:List AV}(q:C5 K a b as){G:Hp}{v:V}(o:a.p G v):∃p us,v=.ref p/\Paired (fun v (x:AV)=>x.p G v) us as/\(b=true->G p=some (.lst us))/\(b=false->b_ K G p us):=by
 cases q with
 |@s ds =>
  have o':DR K G (.s ds) v:=o;unfold DR at o';obtain⟨a,us,e,h1,h2⟩:=o';exact⟨a,us,e,Hg h2,fun _=>h1,nofun⟩
 |@t ds =>
  have o':DR K G (.t ds) v:=o;unfold DR at o';obtain⟨a,us,e,h1,h2⟩:=o';exact⟨a,us,e,Hg h2,nofun,fun _=>h1⟩
 |v=>obtain⟨a,us,e,h1,h2⟩:=o;exact⟨a,us,e,h2,fun _=>h1,nofun⟩
 |w=>obtain⟨a,us,e,h1,h2⟩:=o;exact⟨a,us,e,h2,nofun,fun _=>b_.of h1⟩
theorem Hd{G:Hp}{us:List V}{as:List AV}(r:Paired (fun v (x:AV)=>x.p G v) us as){i:Nat}{x:V}(e:us[i]?=some x):(Au as i).p G x:=by
 obtain⟨d,hd,hr⟩:=Paired.getL r e;unfold Au;rw[rF,hd];exact hr
theorem rm(q:EV s h te fun x h1=>∃a as,x=.im a/\C5 K a true as/\Θ as.length (Au as) h1):EI s h (dq K te) Θ:=by
 intro B T σ vs H R a k;refine q B T σ vs H _ a fun x v h1 H1 ⟨a,as,e,f,q1⟩ a1=>?_;subst e;obtain⟨m,rfl,R1⟩:=a1;obtain⟨b,us,rfl,hr,g1,_⟩:=f.view R1.top;have gl:=g1 rfl;have hlen:=Paired.length hr;refine⟨b,rfl,⟨_,aA.of (R1.wf.s _ _ gl)⟩,k _ _ _ h1 m q1 R1.drop ⟨fun i G2 H2 hi s1 s2=>?_,fun G2 H2 s1 s2=>?_,fun i m2 hh x H3 hi s1 s2 y=>?_⟩⟩
 ·have:i<us.length:=by rw[hlen];exact hi
  exact⟨us,us[i],aA.of (s2 _ _ (s1 _ _ gl)),by simp[this]⟩
 ·exact⟨us,aA.of (s2 _ _ (s1 _ _ gl)),by rw[hlen];exact aN _⟩
 ·obtain⟨rfl,y⟩:=y;exact⟨m2,rfl,.refl s2,(Au as i).mono s1 (Hd hr (y us (aA.of (s2 _ _ (s1 _ _ gl)))))⟩
theorem Iz(q:EV s h te fun x h1=>∃a as,x=.im a/\C5 K a false as/\Θ as.length (Au as) h1):EI s h (Iq K te) Θ:=by
 intro B T σ vs H R a k;refine q B T σ vs H _ a fun x v h1 H1 ⟨a,as,e,f,q1⟩ a1=>?_;subst e;obtain⟨m,rfl,R1⟩:=a1;obtain⟨b,us,rfl,hr,_,g2⟩:=f.view R1.top;have gl:=g2 rfl;have hlen:=Paired.length hr;refine⟨b,rfl,⟨_,b_.same R1.wf.s gl⟩,k _ _ _ h1 m q1 R1.drop ⟨fun i G2 H2 hi s1 s2=>?_,fun G2 H2 s1 s2=>?_,fun i m2 hh x H3 hi s1 s2 y=>?_⟩⟩
 ·have:i<us.length:=by rw[hlen];exact hi
  exact⟨us,us[i],b_.same (s1.trans s2) gl,by simp[this]⟩
 ·exact⟨us,b_.same (s1.trans s2) gl,by rw[hlen];exact aN _⟩
 ·obtain⟨rfl,y⟩:=y;exact⟨m2,rfl,.refl s2,(Au as i).mono s1 (Hd hr (y us (b_.same (s1.trans s2) gl)))⟩
end
def cS(k:Nat)(fi:List Nat)(s:List Sl):List Sl:=kI k .no++fi.map fun i=>s.getD i .no
theorem lend{B:Bs}{s:List Sl}{h:SH}{T:List Sl}{σ:L2.St}{vs:List V}{m:Mp}(R:Rw B s h T σ vs m)(k:Nat)(fi:List Nat):Rw ⟨m.G,m.H,m.P,fun _=>False,fun a=>∃n c,(n,c)∈h/\m.ad n=a,[]⟩ (cS k fi s) h [] (ef k fi σ) [] m:=by
 refine⟨⟨.refl _,fun _ _ e _ _=>e,fun _ e=>e,fun _ e=>.inl e,fun _ _ _ _ _ e=>e,fun _=>Iff.rfl,fun n c e=>.inr (.inr ⟨n,c,e,rfl⟩),fun _ _ e=>nomatch e⟩,R.wf,by unfold cS ef;simp,fun i x e=>?_,.nil⟩;unfold cS at e;by_cases z:i<k
 ·rw[kH (by simpa using z)]at e;exact .inl (List.eq_of_mem_replicate (cu e))
 ·rw[oO (by simpa using z),vQ,cb]at e;cases q:fi[i-k]? with
  |none=>rw[q]at e;cases e
  |some j =>
   rw[q]at e;have e1:s.getD j .no=x:=dX e;rw[rF]at e1;cases q2:s[j]? with
   |none=>rw[q2]at e1;exact .inl e1.symm
   |some y =>
    rw[q2]at e1;have e':y=x:=e1;subst e';refine(R.sl j y q2).imp id fun⟨v,e,o⟩=>⟨v,?_,o⟩;unfold ef;rw[oO (by simpa using z),vQ,cb,q];show some ((σ[j]?).join)=_;rw[e];rfl
theorem HJ{n:Nat}(h:n<=1000000):n<aj:=vL h (by decide)
theorem Mv.put{m m':Mp}{h:SH}(M:Mv m h m' h){l:Addr}{o:HO}(hl:m.H l=none)(gl:m'.G l=none)(hp:∀a,m.P a->m.H a≠none):Mv m h { m' with H:=upd m'.H l o } h :=
 ⟨M.gg,fun b u e=>by show upd m'.H l o b=some u;rw[ai (fun z=>by rw[z,gl]at e;cases e)];exact M.s _ _ e,fun a u e n=>by show upd m'.H l o a=some u;rw[ai (ah e hl)];exact M.hh a u e n,fun a e=>by
  show upd m'.H l o a≠none;rw[ai (fun z=>e (by rw[z];exact hl))];exact M.al a e,M.fr,fun p c o' hp' hc e=>by
  show gU (upd m'.H l o) p c;exact(M.pe p c o' hp' hc e).upd (fun z=>hp p hp' (by rw[z];exact hl)) (fun z=>by have:=M.gg _ _ hc;rw[z,gl]at this;cases this),M.pp,M.ad,M.nm⟩
section
variable{K:Za}{s:List Sl}{h:SH}{φ:Sl->SH->Prop}{ψ:Bool->SH->Prop}{te:TE}
theorem BI{k:Nat}{fi:List Nat}{wi:L2.TI}{g:TG}{tc:TT}(q:EI s h wi fun n el h1=>n<=1000000/\∃I:Nat->List AV->Prop,I 0 [] /\
  (∀i acc,i<n->I i acc->EG (cS k fi s) h1 (.im (el i)) g fun sc h2=>ET sc h2 tc fun b h3=>if b=true then EV sc h3 te fun y _=>∃a,y=.im a/\I (i+1) (acc++[a])else I (i+1) acc)/\(∀acc,I n acc->C9 K h1 φ (acc.map .im))):EV s h (dQ k fi wi g tc te) φ:=by
 intro B T σ vs H Q a kk;refine q B T σ vs H _ a fun n el J h1 m ⟨hz,I,i0,st,fin⟩ R S l hl=>?_;obtain⟨f1,f2,f3,f4⟩:=R.fresh hl;refine ol (Q:=fun H2=>Q (.ref l) H2) n (fun i ws H2=>∃m2 acc,m2.H=H2/\I i acc/\acc.length<=i/\Mv m h1 m2 h1/\m2.G l=none/\H2 l=some (.lst ws)/\m5 m2 h1 ws (acc.map .im))
  ⟨_,[],rfl,i0,aN _,Mv.newO (o:=.lst []) R.wf.s hl,f2,aa,.nil⟩ (fun i ws H2 _ ⟨_,_,_,_,_,_,_,e,_⟩=>e) (fun i ws H2 hi ⟨m2,_,e,_,_,M,_⟩=>by rw[<-e];exact S.go i m2.G m2.H hi M.gg M.s) (fun ws H2 ⟨m2,acc,e0,hI,_,M,g,e,hd⟩=>?_) ?_
 ·subst e0;refine⟨S.st m2.G m2.H M.gg M.s,?_⟩;obtain⟨x,h2,hx,a2⟩:=R.adopt M hl g e hd (fin acc hI);exact kk x _ h2 _ hx a2
 ·rintro i ws H2 x H3 hi ⟨m2,acc,rfl,hI,hlen,M,gl,e,hd⟩ y;obtain⟨m3,rfl,M3,hx⟩:=S.yl i m2 h1 x H3 hi M.gg M.s y;have M03:=M.trans M3;have R3:=R.mv M03;have nP:¬m2.P l:=by rw[M.pp];exact f3
  have nP3:¬m3.P l:=by rw[M3.pp];exact nP
  have e3:m3.H l=some (.lst ws):=M3.hh l _ e nP;have gl3:m3.G l=none:=by
   cases q:m3.G l with
   |none=>rfl
   |some u =>
    rcases M3.fr l (by rw[q];exact nofun)with z|z
    ·exact absurd gl z
    ·rw[e]at z;cases z
  have hd3:m5 m3 h1 ws (acc.map .im):=Paired.mapP hd fun v x r=>Ok.mv M3 r;refine st i acc hi hI _ [] _ [] x _ _ ((lend R3 k fi).push hx) fun sc σ2 h2 H4 h4 a4=>h4 _ [] σ2 [] H4 _ a4 fun b h3 H5 h5 a5=>?_;have step:∀{m6:Mp}{h6:SH},Fr ⟨m3.G,m3.H,m3.P,fun _=>False,fun a=>∃n c,(n,c)∈h1/\m3.ad n=a,[]⟩ m6 h6->Wf m6 h6->Mv m h1 { m6 with ad:=m3.ad } h1/\m6.G l=none/\m6.H l=some (.lst ws)/\m5 { m6 with ad:=m3.ad } h1 ws (acc.map .im):=by
   intro m6 h6 F W;have M6:Mv m3 h1 { m6 with ad:=m3.ad } h1:=Fr.mv0 (h0:=[]) F W (fun _ z=>z);refine⟨M03.trans M6,?_,M6.hh l _ e3 nP3,Paired.mapP hd3 fun v x r=>Ok.mv M6 r⟩;cases q:m6.G l with
   |none=>rfl
   |some u =>
    rcases M6.fr l (by show m6.G l≠none;rw[q];exact nofun)with z|z
    ·exact absurd gl3 z
    ·rw[e3]at z;cases z
  have hpP:∀a,m.P a->m.H a≠none:=fun a z=>(R.wf.p a z).2;cases b with
  |true =>
   refine bE ?_;refine(if_pos rfl).mp h5 _ [] σ2 [] H5 _ a5 fun y v h7 H6 ⟨ea,ey,hI'⟩ a6=>?_;subst ey;obtain⟨m6,rfl,R6⟩:=a6;obtain⟨M6,g6,e6,d6⟩:=step R6.fr R6.wf;have l6:=Paired.length d6;rw[am]at l6;refine⟨e6,by rw[l6];exact HJ (by omega),u3 hi ⟨_,acc++[ea],rfl,hI',by simp;omega,M6.put (o:=.lst (ws++[v])) hl g6 hpP,g6,aa,?_⟩⟩;rw[aQ];exact Paired.app (Paired.mapP d6 fun v x r=>by
    cases x with
    |im a=>exact r
    |no=>exact eg
    |lc n=>exact r
    |pn =>
     obtain⟨p,c,o,z1,z2,z3,z4⟩:=r;refine⟨p,c,o,z1,z2,z3,?_⟩;have z2':m6.P p:=z2;have z3':m6.G c=some o:=z3;exact(show gU m6.H p c from z4).upd (fun z=>by rw[z]at z2';exact nP3 ((R6.fr.pp l).mpr z2')) (fun z=>by rw[z,g6]at z3';cases z3')) (.cons R6.top .nil)
  |false =>
   refine bu ?_;obtain⟨m6,rfl,R6⟩:=a5;obtain⟨M6,g6,e6,d6⟩:=step R6.fr R6.wf;exact u3 hi ⟨{ m6 with ad:=m3.ad },acc,rfl,(if_neg nofun).mp h5,by omega,M6,g6,e6,d6⟩
end
structure AE where
 nx:List Sl->SH->Prop
 rt:Sl->SH->Prop
 bk:List Sl->SH->Prop:=fun _ _=>False
 ct:List Sl->SH->Prop:=fun _ _=>False
structure Le(De:il)(D:AE)(B:Bs)(T:List AV)(vs:List V):Prop where
 nx:∀s h σ H,D.nx s h->A B s h (T.map .im) σ vs H->De.nx σ H
 rt:∀x h v H,D.rt x h->A B [] h [x] [] [v] H->De.rt v H
 bk:∀s h σ H,D.bk s h->A B s h (T.map .im) σ vs H->De.bk σ H
 ct:∀s h σ H,D.ct s h->A B s h (T.map .im) σ vs H->De.ct σ H
def SS(s:List Sl)(h:SH)(t:TS)(D:AE):Prop:=∀B (T:List AV) σ vs H De,(∀a,¬B.R a)->A B s h (T.map .im) σ vs H->Le De D B T vs->t De σ H
def Wk(s s':List Sl):Prop:=s'.length=s.length/\∀(i:Nat) x,s'[i]?=some x->x=.no∨s[i]?=some x
theorem Wk.refl(s:List Sl):Wk s s:=⟨rfl,fun _ _ h=>.inr h⟩
theorem oU:Wk [] []:=.refl _
theorem Wk.cons{x:Sl}{s s':List Sl}(h:Wk s s'):Wk (x::s) (x::s'):=⟨by simp[h.1],fun i y e=>by
 cases i with
 |zero=>exact .inr e
 |succ i=>exact h.2 i y e⟩
theorem Wk.no{x:Sl}{s s':List Sl}(h:Wk s s'):Wk (x::s) (.no::s'):=⟨by simp[h.1],fun i y e=>by
 cases i with
 |zero=>exact .inl (dX e).symm
 |succ i=>exact h.2 i y e⟩
def tj(h:SH):Sl->Bool
 |.lc n=>(h.map (·.1)).contains n
 |_=>true
def ceN(h:SH):Ce->Bool
 |.lst xs=>xs.all (tj h)
 |.dk kvs=>kvs.all fun p=>tj h p.2
 |.dt kvs=>kvs.all fun p=>tj h p.2
 |.ins _ fs=>fs.all fun p=>tj h p.2
 |.fk _ _ kvs=>kvs.all fun p=>tj h p.2
structure Fg(s:List Sl)(h h':SH):Prop where
 sub:h'.Sublist h
 sl:s.all (tj h')=true
 ce:(h'.all fun p=>ceN h' p.2)=true
 lo:∀n c,(n,c)∈h->1000<=n->(n,c)∈h'
theorem wP{m:Mp}{h h':SH}{x:Sl}{v:V}(hx:tj h' x=true)(o:Ok m h x v):Ok m h' x v:=by
 cases x with
 |no=>exact eg
 |im a=>exact o
 |pn=>exact o
 |lc n =>
  refine⟨?_,o.2⟩;have:n∈h'.map (·.1):=List.contains_iff_mem.mp hx;obtain⟨⟨k,c⟩,e,ek⟩:=aO.mp this;have:k=n:=ek;subst this;exact⟨c,e⟩
theorem k_{m:Mp}{h h':SH}:∀{vs:List V}{xs:List Sl},xs.all (tj h')=true->m5 m h vs xs->m5 m h' vs xs
 |_,_,_,.nil=>.nil
 |_,_,hx,.cons o r=>by
  rw[rQ,iw]at hx;exact .cons (wP hx.1 o) (k_ hx.2 r)
theorem IC{m:Mp}{h h':SH}{a:Addr}{c:Ce}(hx:ceN h' c=true)(o:xH m h a c):xH m h' a c:=by
 cases c with
 |lst xs=>obtain⟨vs,e,r⟩:=o;exact⟨vs,e,k_ hx r⟩
 |dk xs=>obtain⟨vs,e,r⟩:=o;exact⟨vs,e,k_ (by rw[mn];exact hx) r⟩
 |dt xs=>obtain⟨vs,e,r⟩:=o;exact⟨vs,e,k_ (by rw[mn];exact hx) r⟩
 |ins C fs=>obtain⟨dx,vs,e,r⟩:=o;exact⟨dx,vs,e,k_ (by rw[mn];exact hx) r⟩
 |fk ob l xs =>
  refine⟨o.1,?_⟩;have key:∀{l:List (d9×V)}{xs:List (d9×Sl)},Paired (fun(p:d9×V) (q:d9×Sl)=>p.1=q.1/\Ok m h q.2 p.2) l xs->(xs.all fun p=>tj h' p.2)=true->Paired (fun(p:d9×V) (q:d9×Sl)=>p.1=q.1/\Ok m h' q.2 p.2) l xs:=by
   intro l xs q
   induction q with
   |nil=>exact fun _=>.nil
   |cons h1 _ ih =>
    intro z;rw[rQ,iw]at z;exact .cons ⟨h1.1,wP z.1 h1.2⟩ (ih z.2)
  exact key o.2 hx
theorem A.wk{B:Bs}{s s':List Sl}{h:SH}{T:List Sl}{σ:L2.St}{vs:List V}{H:Hp}(a:A B s h T σ vs H)(w:Wk s s'):A B s' h T σ vs H:=by
 obtain⟨m,e,R⟩:=a;refine⟨m,e,R.fr,R.wf,by rw[w.1];exact R.len,fun i x h=>?_,R.tm⟩;rcases w.2 i x h with e|e
 ·exact .inl e
 ·exact R.sl i x e
theorem GU{m:Mp}{h h':SH}:∀{T:List AV}{vs:List V},m5 m h vs (T.map .im)->m5 m h' vs (T.map .im)
 |[],_,q=>by cases q;exact .nil
 |_::_,_,q=>by cases q with|cons q1 q2=>exact .cons q1 (GU q2)
theorem A.fg{B:Bs}{s:List Sl}{h h':SH}{T:List AV}{σ:L2.St}{vs:List V}{H:Hp}(a:A B s h (T.map .im) σ vs H)(f:Fg s h h'):A B s h' (T.map .im) σ vs H:=by
 obtain⟨m,e,R⟩:=a;have sub:∀n c,(n,c)∈h'->(n,c)∈h:=fun n c e=>f.sub.subset e;refine⟨m,e,⟨R.fr.gg,R.fr.hh,R.fr.al,R.fr.fr,R.fr.pe,R.fr.pp,fun n c e=>R.fr.ow n c (sub n c e),fun n a e=>?_⟩,⟨R.wf.s,R.wf.p,fun n c e=>?_,fun n c n' c' e e'=>R.wf.i n c n' c' (sub n c e) (sub n' c' e'),R.wf.u.sublist (f.sub.map _)⟩,R.len,fun i x hx=>(R.sl i x hx).imp id fun⟨v,e,o⟩=>⟨v,e,wP (List.all_eq_true.mp f.sl x (cu hx)) o⟩,GU R.tm⟩
 ·obtain⟨h1,h2,c,h3⟩:=R.fr.nd n a e;exact⟨h1,h2,c,f.lo n c h3 h1⟩
 ·obtain⟨h1,h2,h3⟩:=R.wf.c n c (sub n c e);exact⟨h1,h2,IC (List.all_eq_true.mp f.ce (n,c) e) h3⟩
theorem A.only{B:Bs}{s:List Sl}{h:SH}{T:List Sl}{σ:L2.St}{vs:List V}{H:Hp}{x:Sl}{v:V}(a:A B s h (x::T) σ (v::vs) H):A B [] h [x] [] [v] H:=by
 obtain⟨m,e,R⟩:=a;exact⟨m,e,R.fr,R.wf,rfl,fun i x h=>by simp at h,.cons R.top .nil⟩
def JF(s:List Sl)(h:SH)(I:List Sl->SH->Prop):Prop:=∃s' h',Wk s s'/\Fg s' h h'/\I s' h'
theorem A.wf2{B:Bs}{s:List Sl}{h:SH}{T:List AV}{σ:L2.St}{vs:List V}{H:Hp}{I:List Sl->SH->Prop}(a:A B s h (T.map .im) σ vs H)(w:JF s h I):∃s' h',I s' h'/\A B s' h' (T.map .im) σ vs H:=by
 obtain⟨s',h',w1,w2,i⟩:=w;exact⟨s',h',i,(a.wk w1).fg w2⟩
section
variable{K:Za}{s:List Sl}{h:SH}{D:AE}{te:TE}{t u:TS}
theorem bZ(q:SS s h t { D with nx:=fun s' h'=>SS s' h' u D }):SS s h (ax t u) D:=fun B T σ vs H De r a l=>q B T σ vs H _ r a ⟨fun s' h' σ' H' q' a'=>q' B T σ' vs H' De r a' l,l.rt,l.bk,l.ct⟩
theorem iF(q:D.nx s h):SS s h bo D:=fun B T σ vs H De r a l=>l.nx s h σ H q a
theorem iE(q:EV s h te D.rt):SS s h (aZ te) D:=fun B T σ vs H De r a l=>q B _ σ vs H _ a fun x v h1 H1 q1 a1=>l.rt x h1 v H1 q1 a1.only
theorem iG{g:TG}(q:EV s h te fun x h1=>EG s h1 x g D.nx):SS s h (aV te g) D:=fun B T σ vs H De r a l=>q B _ σ vs H _ a fun x v h1 H1 q1 a1=>q1 B _ σ vs v H1 _ a1 fun s' σ' h' H' q' a'=>l.nx s' h' σ' H' q' a'
theorem gK{c:TT}(q:ET s h c fun b h1=>if b=true then SS s h1 t D else SS s h1 u D):SS s h (cG c t u) D:=by
 intro B T σ vs H De r a l;refine q B _ σ vs H _ a fun b h1 H1 q1 a1=>?_;cases b with
 |true=>exact bE ((if_pos rfl).mp q1 B T σ vs H1 De r a1 l)
 |false=>exact bu ((if_neg nofun).mp q1 B T σ vs H1 De r a1 l)
theorem v_{wi:L2.TI}{g:TG}{tb:TS}(q:EI s h wi fun n el h1=>∃I:Nat->List Sl->SH->Prop,JF s h1 (I 0) /\
  (∀i s' h',i<n->I i s' h'->EG s' h' (.im (el i)) g fun s2 h2=>SS s2 h2 tb { D with nx:=fun s3 h3=>JF s3 h3 (I (i+1)),ct:=fun s3 h3=>JF s3 h3 (I (i+1)),bk:=D.nx })/\∀s' h',I n s' h'->D.nx s' h'):SS s h (fJ wi g tb) D:=by
 intro B T σ vs H De r a l;refine q B _ σ vs H _ a fun n el J h1 m ⟨I,w0,st,fin⟩ R S=>?_;obtain⟨s0,h0,i0,a0⟩:=A.wf2 (T:=DA J n el::T) (R.push (x:=.im (DA J n el)) (v:=.non) S) w0;refine⟨fun i m σ' H'=>m=n-i/\i<=n/\∃s' h',I i s' h'/\A B s' h' ((DA J n el::T).map .im) σ' (.non::vs) H',⟨n,by simp,bR _,s0,h0,i0,a0⟩,?_⟩;rintro i k σ' H' ⟨rfl,hi,s',h',hI,m2,rfl,R2⟩;have S2:IZ m2.G J n el:=R2.top;by_cases hlt:i<n
 ·refine .inr ⟨S2.go i m2.G m2.H hlt (.refl _) R2.wf.s,fun σ3 H3=>∃s3 h3,I (i+1) s3 h3/\A B s3 h3 ((DA J n el::T).map .im) σ3 (.non::vs) H3,fun σ3 H3 ⟨s3,h3,i3,a3⟩=>⟨n-(i+1),by omega,rfl,hlt,s3,h3,i3,a3⟩,fun x H3 y=>?_⟩;obtain⟨m3,rfl,M3,hx⟩:=S2.yl i m2 h' x H3 hlt (.refl _) R2.wf.s y;refine st i s' h' hlt hI B _ σ' _ x _ _ ((R2.mv M3).push hx) fun s2 σ2 h2 H2 q2 a2=>q2 B (DA J n el::T) σ2 _ H2 _ r a2 ⟨fun s4 h4 σ4 H4 w5 a4=>a4.wf2 w5,l.rt,fun s4 h4 σ4 H4 q4 a4=>l.nx s4 h4 σ4 H4 q4 a4.drop,fun s4 h4 σ4 H4 w5 a4=>a4.wf2 w5⟩
 ·have e:i=n:=by omega
  subst e;exact .inl ⟨S2.st m2.G m2.H (.refl _) R2.wf.s,l.nx s' h' σ' _ (fin s' h' hI) (A.drop ⟨m2,rfl,R2⟩)⟩
end
def HH(n:Nat)(PRE:List Sl->SH->(Sl->SH->Prop)->Prop):Sp:=fun vs H Q _=>∃xs h φ m,xs.length=n/\m.H=H/\(∀n c,(n,c)∈h->1000<=n)/\Wf m h/\m5 m h vs xs/\PRE xs h φ/\Fin m h Q φ
theorem JD{n:Nat}{PRE:List Sl->SH->(Sl->SH->Prop)->Prop}{xs:List Sl}{h:SH}{φ:Sl->SH->Prop}(q:PRE xs h φ)(hn:xs.length=n:=by rfl):Cn (HH n PRE) xs h φ:=fun us m Q E h1 W o f=>⟨xs,h,φ,m,hn,rfl,h1,W,o,q,f⟩
theorem Ju{n:Nat}{PRE:List Sl->SH->(Sl->SH->Prop)->Prop}{vs:List V}{H:Hp}{Q:VK}{E:XK}(q:HH n PRE vs H Q E):vs.length=n:=by
 obtain⟨xs,h,φ,m,hn,_,_,_,hx,_⟩:=q;rw[Paired.length hx,hn]
theorem body{n:Nat}{PRE:List Sl->SH->(Sl->SH->Prop)->Prop}{vs:List V}{H:Hp}{Q:VK}{E:XK}{t:TS}{N:Zb}(q:HH n PRE vs H Q E)(hb:∀xs h φ,PRE xs h φ->SS (xs++kI (N.length-xs.length) .no) h t ⟨fun _ h'=>φ (.im nv) h',φ,fun _ _=>False,fun _ _=>False⟩):
  t (bT Q) (start N vs) H:=by
 obtain⟨xs,h,φ,m,_,rfl,h1,W,hx,hpre,f⟩:=q;have hl:vs.length=xs.length:=Paired.length hx;refine hb xs h φ hpre (IG m h (h.map fun p=>(p.1,m.ad p.1))) [] (start N vs) [] _ _ (fun _ z=>z) ⟨m,rfl,⟨.refl _,fun _ _ e _ _=>e,fun _ e=>e,fun _ e=>.inl e,fun _ _ _ _ _ e=>e,fun _=>Iff.rfl,fun n c e=>.inr (.inl ⟨n,c,e,rfl⟩),fun n a e=>?_⟩,W,by unfold L2.start;simp[hl],fun i x e=>?_,.nil⟩ ⟨?_,?_,fun _ _ _ _ z=>z.elim,fun _ _ _ _ z=>z.elim⟩
 ·obtain⟨⟨k,c⟩,e1,e2⟩:=aO.mp e;cases e2;exact⟨h1 k c e1,rfl,c,e1⟩
 ·by_cases z:i<xs.length
  ·rw[kH z]at e;obtain⟨v,hv,hk⟩:=Paired.get (R:=fun v x=>Ok m h x v) hx e;refine .inr ⟨v,?_,hk⟩;unfold L2.start;rw[kH (by simpa[hl]using z),cb,hv];rfl
  ·rw[oO (by omega)]at e;exact .inl (List.eq_of_mem_replicate (cu e))
 ·rintro s h' σ H' q ⟨m',rfl,R⟩;exact f (.im nv) .non h' m' q R.fr R.wf rfl
 ·rintro x h' v H' q ⟨m',rfl,R⟩;exact f x v h' m' q R.fr R.wf R.top
theorem ifB{b:Bool}{X Y:Prop}(h1:b=true->X)(h2:b=false->Y):if b=true then X else Y:=by
 cases b with
 |true=>exact bE (h1 rfl)
 |false=>exact bu (h2 rfl)
section
variable{K:Za}{s:List Sl}{h:SH}{φ φ':Sl->SH->Prop}{ψ ψ':Bool->SH->Prop}{ta tb te tl:TE}{g:TG}{tc:TT}{k:Nat}{fi:List Nat}
theorem Fb(q:EV s h te φ)(z:∀x h',φ x h'->φ' x h'):EV s h te φ':=fun B T σ vs H Q a k=>q B T σ vs H Q a fun b v h1 H1 hb a1=>k b v h1 H1 (z b h1 hb) a1
theorem qp{α β:Type}{xs:List α}{i:Nat}{a:α}(h:xs[i]?=some a)(p:α->Bool)(f:α->β):((xs.take (i+1)).filter p).map f=((xs.take i).filter p).map f++(if p a=true then[f a]else[]):=by
 rw[take_snoc h,rG,aQ];by_cases c:p a=true
 ·rw[if_pos c];simp[List.filter,c]
 ·rw[if_neg c];simp[List.filter,c]
def Hv(K:Za)(s:List Sl)(h:SH)(φ:Sl->SH->Prop)(k:Nat)(fi:List Nat)(g:TG)(tc:TT)(te:TE)(α:Type)(xs:List α)(enc:α->AV)(p:α->Bool)(f:α->AV):Prop :=
 xs.length<=1000000/\(∀a∈xs,EG (cS k fi s) h (.im (enc a)) g fun sc h2=>ET sc h2 tc fun b h3=>b=p a/\(p a=true->EV sc h3 te fun y _=>y=.im (f a)))/\C9 K h φ (((xs.filter p).map f).map .im)
theorem tK{α:Type}{xs:List α}{enc:α->AV}{p:α->Bool}{f:α->AV}(q:Hv K s h φ k fi g tc te α xs enc p f):(xs.map enc).length<=1000000/\∃I:Nat->List AV->Prop,I 0 [] /\
  (∀i acc,i<(xs.map enc).length->I i acc->EG (cS k fi s) h (.im (Au (xs.map enc) i)) g fun sc h2=>ET sc h2 tc fun b h3=>if b=true then EV sc h3 te fun y _=>∃a,y=.im a/\I (i+1) (acc++[a])else I (i+1) acc)/\(∀acc,I (xs.map enc).length acc->C9 K h φ (acc.map .im)):=by
 obtain⟨hz,st,fin⟩:=q;refine⟨by rw[am];exact hz,fun i acc=>acc=((xs.take i).filter p).map f,by simp,fun i acc hi e=>?_,fun acc e=>?_⟩
 ·rw[am]at hi;have ha:xs[i]?=some xs[i]:=by simp[hi]
  have el:Au (xs.map enc) i=enc xs[i]:=by unfold Au;rw[rF,cb,ha];rfl
  rw[el];have:=st xs[i] (List.getElem_mem hi);intro B T σ vs v H Q a k;refine this B T σ vs v H Q a fun sc σ' h2 H' q' a'=>k sc σ' h2 H' (fun B T σ vs H Q a k=>q' B T σ vs H Q a fun b h3 H1 ⟨e1,e2⟩ a1=>k b h3 H1 ?_ a1) a';subst e1;by_cases c:p xs[i]=true
  ·rw[if_pos c];intro B T σ vs H Q a k;refine e2 c B T σ vs H Q a fun y v h4 H1 ey a1=>k y v h4 H1 ⟨f xs[i],ey,?_⟩ a1;show acc++[f xs[i]]=((xs.take (i+1)).filter p).map f;rw[e,qp ha,if_pos c]
  ·rw[if_neg c];show acc=((xs.take (i+1)).filter p).map f;rw[e,qp ha,if_neg c,fD]
 ·have e':acc=((xs.take (xs.map enc).length).filter p).map f:=e;rw[am,cZ]at e';rw[e'];exact fin
theorem tz(q:EV s h tl fun x h1=>∃(α:Type) (xs:List α) (enc:α->AV) (p:α->Bool) (f:α->AV) (a:AV),x=.im a/\C5 K a true (xs.map enc)/\Hv K s h1 φ k fi g tc te α xs enc p f):EV s h (dQ k fi (dq K tl) g tc te) φ:=by
 refine BI (K:=K) (rm (K:=K) ?_);exact Fb q fun x h1 ⟨α,xs,enc,p,f,a,e,i,c⟩=>⟨a,_,e,i,tK c⟩
theorem yD{α:Type}{xs:List α}{f:α->DT}:C5 K (dv K (.s (xs.map f))) true (xs.map fun a=>dv K (f a)):=by
 have:=C5.s (K:=K) (ds:=xs.map f);rw[dR]at this;exact this
theorem Jw{α:Type}{xs:List α}{f:α->DT}:C5 K (dv K (.t (xs.map f))) false (xs.map fun a=>dv K (f a)):=by
 have:=C5.t (K:=K) (ds:=xs.map f);rw[dR]at this;exact this
theorem ka{ds:List DT}(q:φ (cR K (.s ds)) h):C9 K h φ (ds.map (cR K)):=.inl ⟨ds,yY ds,q⟩
theorem Af{α:Type}{xs:List α}{f:α->DT}(q:φ (cR K (.s (xs.map f))) h):C9 K h φ ((xs.map fun a=>dv K (f a)).map .im):=by
 have e:(xs.map fun a=>dv K (f a)).map Sl.im=(xs.map f).map (cR K):=by rw[dR,dR];rfl
 rw[e];exact ka q
end
theorem BH{m:Mp}{H':Hp}(W:Wf m [])(e:ae m.H H'):Fr (IG m [] []) { m with H:=H' } []/\Wf { m with H:=H' } []:=by
 have al:∀a,m.H a≠none->H' a≠none:=fun a h=>by
  cases q:m.H a with
  |none=>exact absurd q h
  |some u=>rw[e a u q];exact nofun
 exact⟨⟨.refl _,fun a u h _ _=>e a u h,al,fun a h=>.inl h,fun q d u _ _ h=>h.ex e,fun _=>Iff.rfl,(fun _ _ e=>nomatch e),(fun _ _ e=>nomatch e)⟩,⟨W.s.trans e,fun a h=>⟨(W.p a h).1,al a (W.p a h).2⟩,(fun _ _ e=>nomatch e),(fun _ _ _ _ e=>nomatch e),ix⟩⟩
theorem yN{m:Mp}{H':Hp}{Q:VK}{φ:Sl->SH->Prop}{l:Addr}{us:List V}{xs:List Sl}(W:Wf m [])(f:Fin m [] Q φ)(F1:Fr (IG m [] []) { m with H:=H' } [])(W1:Wf { m with H:=H' } [])(hl:m.H l=none)(e:H' l=some (.lst us))(hx:∀x∈xs,plain x)(o:m5 { m with H:=H' } [] us xs)(q:φ (.lc 0) [(0,.lst xs)]):Q (.ref l) H':=by
 have gl:m.G l=none:=W.s.free hl;have pl:¬m.P l:=fun z=>(W.p l z).2 hl;have o':m5 ⟨m.G,H',fun _=>l,m.P⟩ [(0,.lst xs)] us xs:=lQ (m:={ m with H:=H' }) (m':=⟨m.G,H',fun _=>l,m.P⟩) rfl rfl rfl hx o;refine f (.lc 0) (.ref l) [(0,.lst xs)] ⟨m.G,H',fun _=>l,m.P⟩ q ⟨F1.gg,F1.hh,F1.al,F1.fr,F1.pe,F1.pp,fun n c z=>.inl hl,(fun _ _ e=>nomatch e)⟩ ⟨W1.s,W1.p,fun n c z=>?_,fun n c n' c' z z' _=>?_,by simp⟩ ⟨⟨_,cp⟩,rfl⟩
 ·have:(n,c)=(0,Ce.lst xs):=by simpa using z
  cases this;exact⟨gl,pl,us,e,o'⟩
 ·have h1:(n,c)=(0,Ce.lst xs):=by simpa using z
  have h2:(n',c')=(0,Ce.lst xs):=by simpa using z'
  cases h1;cases h2;rfl
section
variable{K:Za}
theorem Bo{R:V->Sl->Prop}{us:List V}{x:Sl}(h:Paired R us [x]):∃u,us=[u]/\R u x:=by cases h with|cons h1 h2=>cases h2;exact⟨_,rfl,h1⟩
theorem wu(ds:List DT):∀x∈ds.map (cR K),plain x:=fun x hx=>by
 obtain⟨d,_,rfl⟩:=aO.mp hx;exact eg
theorem Ew{m:Mp}{h:SH}(ws:Zb):m5 m h (ws.map V.str) ((ws.map aS).map (cR K)):=Br (iL ws)
theorem Gn{C:Addr}{J0 J4 J5:Zb}{ds:List aq}{m:Str}(hm:m="is_quiet"∨m="goals"∨m="led_from"∨m="rooms"∨m="asks"∨m="says"∨m="doors"∨m="doors_from"):JN C m (mv C J0 J4 J5 ds):=by
 rintro G v ⟨x,rfl,h⟩;obtain⟨dx,fs,o1,o2,o3,o4,lv,qu,sg,sl,ts,lps,gps,sps,g1,a1,a2,a3,a4,_⟩:=h.at_;obtain⟨dx',fs',g1',e1,e2,e3,e4⟩:=h.more;rw[g1]at g1';cases g1';refine⟨x,dx,fs,rfl,g1,?_⟩;rcases hm with h|h|h|h|h|h|h|h<;>subst h<;>assumption
theorem tw{m:Mp}{Q:VK}{φ:Sl->SH->Prop}{l:Addr}{ws:Zb}(W:Wf m [])(f:Fin m [] Q φ)(hl:m.H l=none)(q:φ (.lc 0) [(0,.lst ((ws.map aS).map (cR K)))]):Q (.ref l) (upd m.H l (.lst (ws.map V.str))):=by
 obtain⟨F,W'⟩:=BH W (ae.new (o:=.lst (ws.map V.str)) hl);exact yN W f F W' hl aa (wu _) (Ew ws) q
theorem GI{C:Addr}{J0 J4 J5:Zb}{ds:List aq}:Cn (lM C) [.im (mv C J0 J4 J5 ds)] [] (fun r h'=>r=.lc 0/\h'=[(0,.lst ((J0.map aS).map (cR K)))]):=by
 intro us m Q E _ W hx f;obtain⟨u,rfl,x,rfl,hm⟩:=Bo hx;exact⟨x,J0,J4,J5,ds,rfl,hm.same W.s,fun l hl=>tw (K:=K) W f hl ⟨rfl,rfl⟩⟩
theorem GH{C:Addr}{J0 J4 J5:Zb}{ds:List aq}:Cn (lJ C) [.im (mv C J0 J4 J5 ds)] [] (fun r h'=>r=.lc 0/\h'=[(0,.lst ((J4.map aS).map (cR K)))]):=by
 intro us m Q E _ W hx f;obtain⟨u,rfl,x,rfl,hm⟩:=Bo hx;exact⟨x,J0,J4,J5,ds,rfl,hm.same W.s,fun l hl=>tw (K:=K) W f hl ⟨rfl,rfl⟩⟩
theorem Fm{C:Addr}{J0 J4 J5:Zb}{ds:List aq}:Cn (jw C) [.im (mv C J0 J4 J5 ds)] [] (fun r h'=>r=.lc 0/\h'=[(0,.lst ((J5.map aS).map (cR K)))]):=by
 intro us m Q E _ W hx f;obtain⟨u,rfl,x,rfl,hm⟩:=Bo hx;exact⟨x,J0,J4,J5,ds,rfl,hm.same W.s,fun l hl=>tw (K:=K) W f hl ⟨rfl,rfl⟩⟩
theorem n6{s:List Sl}{h:SH}{φ:Sl->SH->Prop}{te:TE}{C:Addr}{mt:Str}{sp:Sp}{J0 J4 J5:Zb}{ds:List aq}{L:List DT}(hm:mt="is_quiet"∨mt="goals"∨mt="led_from"∨mt="rooms"∨mt="asks"∨mt="says"∨mt="doors"∨mt="doors_from")
  (c:Cn sp [.im (mv C J0 J4 J5 ds)] [] (fun r h'=>r=.lc 0/\h'=[(0,.lst (L.map (cR K)))])) (q:EV s h te fun x h1=>x=.im (mv C J0 J4 J5 ds)/\C9 K h1 φ (L.map (cR K))):EV s h (jv C mt sp [] E0 te bF) φ:=by
 refine Gs (K:=K) (Fb q fun x h1 ⟨e,z⟩=>⟨_,e,Gn hm,gu ⟨(fun _ y=>nomatch y),Cn.imp c fun r h' ⟨e1,e2⟩=>.inr ⟨0,_,e1,?_,wu _,z⟩⟩⟩);rw[e2];rfl
end
def t8(K:Za):TS :=
 ax (aV V0 (ic K 3 (be U1 (be U2 (be U3 (g_))))))
 (aZ (uf K "str" (uS K) (tC (.str " ")) (aE (aK uo (aK uo (eI (aE V1)) (dD (fL K) (aE V2))) (eI (aE V3))))))
def uv:List Str:=["door","start","sign","goal"]
def FN(K:Za)(C_Machine:Addr)(sp_Machine_doors:Sp)(sp_row_of_door:Sp)(sp_Machine_rooms:Sp)(sp_Machine_says:Sp)(sp_Machine_asks:Sp):TS :=
 ax (aV (eI (az (aK uo (eI (aE (tC (.str "asks")))) (jv C_Machine "asks" sp_Machine_asks [] E0 V0 bF)) (az (aK uo (eI (aE (tC (.str "says")))) (jv C_Machine "says" sp_Machine_says [] E0 V0 bF)) (az (aK uo (eI (aE (tC (.str "rooms")))) (jv C_Machine "rooms" sp_Machine_rooms [] E0 V0 bF)) bF)))) U1)
 (ax (aV (aK uo (dQ 1 [] (dq K V1) U0 (ju) (uf K "str" (uS K) (tC (.str " ")) (aE V0))) (dQ 1 [] (dq K (jv C_Machine "doors" sp_Machine_doors [] E0 V0 bF)) U0 (ju) (aR sp_row_of_door (aE V0)))) U2)
 (aZ (uf K "str" (uS K) (tC (.str "")) (aE (dQ 1 [] (dq K V2) U0 (ju) (aK fC V0 (tC (.str "\n"))))))))
def GO:List Str:=["M","rows","lines"]
def qA(K:Za):TS :=
 aZ (dD (fL K) (aE (xZ K V0 "own_doors")))
def qS:List Str:=["self"]
def xV(K:Za)(sp_law_same:Sp):TS :=
 ax (cG (tB (Dt V1)) (aZ (Dt V0)) (bo))
 (ax (cG (tB (dD (nQ K) (ba V1 (tC (.ty "bool"))))) (aZ (iC (dD (nQ K) (ba V0 (tC (.ty "bool")))) (aK (um K) V0 V1))) (bo))
 (ax (cG (tB (dD (nQ K) (ba V1 (tC (.ty "str"))))) (aZ (iC (dD (nQ K) (ba V0 (tC (.ty "str")))) (aK (um K) V0 V1))) (bo))
 (ax (cG (tB (dD (nQ K) (ba V1 (tC (.ty "int"))))) (aZ (iC (dD (nQ K) (ba V0 (tC (.ty "int")))) (iC (Dq (dD (nQ K) (ba V0 (tC (.ty "bool"))))) (aK (um K) V0 V1)))) (bo))
 (ax (cG (zM (tB (dD (nQ K) (ba V1 (tC (.ty "tuple"))))) (sw (tB (dD (nQ K) (ba V0 (tC (.ty "tuple"))))))) (aZ (tC (.bl false))) (bo))
 (ax (cG (zM (tB (dD (nQ K) (ba V1 (tC (.ty "list"))))) (sw (tB (dD (nQ K) (ba V0 (tC (.ty "list"))))))) (aZ (tC (.bl false))) (bo))
 (ax (cG (bx (aK HS (dD (cV K) (aE V0)) (dD (cV K) (aE V1)))) (aZ (tC (.bl false))) (bo))
 (aZ (dD (Cu K) (az (dQ 2 [] (BB K (ba V0 V1)) (ic K 2 (be U0 (be U1 (g_)))) (ju) (aR sp_law_same (ba V0 V1))) bF)))))))))
def t9(K:Za):TS :=
 ax (aV V0 (ic K 4 (be U1 (be U2 (be U3 (be U4 (g_)))))))
 (ax (aV (tC (.str "")) U5)
 (ax (fJ (dq K (eI (gH (dZ (ba (tC (.str "asks")) V1)) (dZ (ba (tC (.str "says")) V2)) (dZ (ba (tC (.str "rooms")) V3))))) (ic K 2 (be U6 (be U7 (g_)))) (ax (aV (aK fC V5 V6) U5)
 (ax (fJ (dq K V7) U8 (aV (aK fC (aK fC V5 (tC (.str " "))) V8) U5))
 (aV (aK fC V5 (tC (.str "\n"))) U5))))
 (ax (fJ (dq K V4) (ic K 3 (be U9 (be U10 (be U11 (g_))))) (ax (aV (aK fC V5 V9) U5)
 (ax (fJ (Iq K IY) U12 (aV (aK fC (aK fC V5 (tC (.str " "))) J_) U5))
 (aV (aK fC (aK fC (aK fC V5 (tC (.str " "))) Ka) (tC (.str "\n"))) U5))))
 (aZ V5))))
def uw:List Str:=["told","asks","says","rooms","doors","found","head","some","name","room","sign","other","word"]
def y2:List Str:=["found","due"]
theorem yd{K:Za}{G:Hp}{ys:Zb}:∀{us:List V},DRs K G (ys.map aS) us->us=ys.map V.str:=by
 induction ys with
 |nil=>intro us q;unfold DRs at q;exact q
 |cons y ys ih =>
  intro us q;rw[bf]at q;unfold DRs at q;obtain⟨v,us,rfl,q1,q2⟩:=q;unfold aS DR at q1;rw[ih q2,q1];rfl
theorem ID{G:Hp}{bs:List Bool}:∀{us:List V},Paired (fun v (x:AV)=>x.p G v) us (bs.map bv)->us=bs.map V.bl:=by
 induction bs with
 |nil=>intro us r;cases r;rfl
 |cons b bs ih =>
  intro us r;cases r with
  |cons r1 r2 =>
   have r1':_=V.bl b:=r1;rw[r1',ih r2];rfl
section
variable{K:Za}{s:List Sl}{h:SH}{φ:Sl->SH->Prop}{ta tb te:TE}
theorem fR(q:EV s h ta fun x h1=>EV s h1 tb fun y h2=>∃i j:Str,x=cR K (aS i)/\y=cR K (aS j)/\i.length+j.length<=aj/\φ (cR K (aS (i++j))) h2):EV s h (aK fC ta tb) φ:=by
 intro B T σ vs H Q a k;refine q B T σ vs H _ a fun x u h1 H1 q1 a1=>q1 B _ σ _ H1 _ a1 fun y v h2 H2 q2 a2=>?_;obtain⟨i,j,rfl,rfl,hz,c⟩:=q2;obtain⟨e1,a3⟩:=A6 a2;obtain⟨e2,a4⟩:=A6 a3;exact⟨i,j,e2,e1,hz,k _ _ h2 _ c (a4.pushI (ph (K:=K)))⟩
theorem wS{z:Str}(q:EV s h te fun x h1=>∃ys:List Str,Ht K h1 x true (ys.map aS)/\(ys.map (·.length)).sum+ys.length * z.length<=16777216/\φ (cR K (aS (mo z ys))) h1):EV s h (uf K "str" (uS K) (tC (.str z)) (az te bF)) φ:=by
 intro B T σ vs H Q a k;refine⟨rfl,q B T σ vs H _ a fun x u h1 H1 ⟨ys,iq,hz,c⟩ a1=>?_⟩;obtain⟨m,rfl,R⟩:=a1;obtain⟨p,us,rfl,hd,g1,_⟩:=iq.v.view R.wf R.top;have:=yd (Hm hd);subst this;exact⟨z,p,ys,rfl,rfl,aA.of (g1 rfl),hz,k _ _ h1 _ c (R.drop.push (ph (K:=K) m.G))⟩
def tyD:DT->String
 |.k (.inl _)=>"int"
 |.k (.inr _)=>"str"
 |.t _=>"tuple"
 |.s _=>"list"
theorem dJ{c:String}(q:EV s h te fun x h1=>∃d b,x=cR K d/\xL K (.type (tyD d)) (.type c)=some b/\φ (.im (bv b)) h1):EV s h (dD (nQ K) (az te (aE (tC (.ty c))))) φ:=by
 intro B T σ vs H Q a k;refine q B T σ vs H _ a fun x u h1 H1 ⟨d,b,e,hb,q1⟩ a1=>?_;subst e;obtain⟨m,rfl,R⟩:=a1;have o:DR K m.G d u:=R.top;refine⟨u,c,.type (tyD d),b,rfl,?_,hb,k _ _ h1 _ q1 (R.drop.push rfl)⟩;cases d with
 |k a =>
  unfold DR at o;subst o;cases a with
  |inl i=>exact .inl (mR.int i)
  |inr i=>exact .inl (mR.str i)
 |t l=>unfold DR at o;obtain⟨a,us,rfl,g,_⟩:=o;exact .inr (.inl ⟨a,us,rfl,rfl,b_.same R.wf.s g⟩)
 |s l=>unfold DR at o;obtain⟨a,us,rfl,g,_⟩:=o;exact .inr (.inr ⟨a,us,rfl,rfl,aA.of (R.wf.s _ _ g)⟩)
theorem Ix(q:EV s h te fun x h1=>∃bs:List Bool,x=.im (lv (bs.map bv))/\φ (.im (bv (bs.all id))) h1):EV s h (dD (Cu K) (az te bF)) φ:=by
 intro B T σ vs H Q a k;refine q B T σ vs H _ a fun x u h1 H1 ⟨bs,e,c⟩ a1=>?_;subst e;obtain⟨m,rfl,R⟩:=a1;obtain⟨p,us,rfl,g,r⟩:=(show(lv (bs.map bv)).p m.G u from R.top);have:=ID r;subst this;exact⟨p,bs,rfl,aA.of (R.wf.s _ _ g),k _ _ h1 _ c (R.drop.push rfl)⟩
def uX(K:Za)(x:DT×DT):AV:=tv [dv K x.1,dv K x.2]
theorem Iy{Θ:Nat->(Nat->AV)->SH->Prop}(q:EV s h ta fun x h1=>EV s h1 tb fun y h2=>∃ds es:List DT,((x=cR K (.s ds)/\y=cR K (.s es))∨(x=cR K (.t ds)/\y=cR K (.t es)))/\ds.length=es.length/\Θ ((ds.zip es).map (uX K)).length (Au ((ds.zip es).map (uX K))) h2):EI s h (BB K (az ta (az tb bF))) Θ:=by
 intro B T σ vs H R a k;refine q B T σ vs H _ a fun x u h1 H1 q1 a1=>q1 B _ σ _ H1 _ a1 fun y v h2 H2 ⟨ds,es,hxy,hl,c⟩ a2=>?_;obtain⟨m,rfl,R2⟩:=a2;have R3:=R2.drop.drop;have nz:((ds.zip es).map (uX K)).length=ds.length:=by rw[am,List.length_zip,<-hl,Nat.min_self]
 have elat:∀{i:Nat}{d e:DT},ds[i]?=some d->es[i]?=some e->Au ((ds.zip es).map (uX K)) i=uX K (d,e):=fun{i d e} h1 h2=>by
  unfold Au;rw[rF,cb,(List.getElem?_zip_eq_some (z:=(d,e))).mpr ⟨h1,h2⟩];rfl
 have yl:∀{us ws:List V},DRs K m.G ds us->DRs K m.G es ws->∀(i:Nat) (m2:Mp) (hh:SH) (p:Addr) (a b:V),i<ds.length->ae m.G m2.G->ae m2.G m2.H->m2.H p=none->us[i]?=some a->ws[i]?=some b->∃m3:Mp,m3.H=upd m2.H p (.tup [a,b])/\Mv m2 hh m3 hh/\(Au ((ds.zip es).map (uX K)) i).p m3.G (.ref p):=by
  intro us ws q1 q2 i m2 hh p a b hi s1 s2 hp ha hb;obtain⟨d,hd,o1⟩:=q1.getL ha;obtain⟨e,he,o2⟩:=q2.getL hb;rw[elat hd he];refine⟨_,rfl,Mv.new (o:=.tup [a,b]) s2 hp,p,[a,b],rfl,aa,?_⟩;have S:=s1.trans (ae.new (o:=.tup [a,b]) (s2.free hp));exact .cons (DR.same S o1) (.cons (DR.same S o2) .nil)
 rcases hxy with⟨rfl,rfl⟩|⟨rfl,rfl⟩
 ·have o1:DR K m.G (.s ds) u:=R2.drop.top;have o2:DR K m.G (.s es) v:=R2.top;unfold DR at o1 o2;obtain⟨b1,us,rfl,g1,q1⟩:=o1;obtain⟨b2,ws,rfl,g2,q2⟩:=o2;have l1:=q1.len;have l2:=q2.len;refine⟨b1,b2,rfl,.inl ⟨⟨us,aA.of (R3.wf.s _ _ g1)⟩,⟨ws,aA.of (R3.wf.s _ _ g2)⟩,k _ _ _ h2 m c R3 ⟨fun i G2 H2 hi s1 s2=>?_,fun G2 H2 s1 s2=>?_,fun i m2 hh x H3 hi s1 s2 y=>?_⟩⟩⟩
  ·rw[nz]at hi;exact⟨us,ws,us[i],ws[i],aA.of (s2 _ _ (s1 _ _ g1)),aA.of (s2 _ _ (s1 _ _ g2)),by simp[l1,hi],by simp[l2,<-hl,hi]⟩
  ·exact⟨us,ws,aA.of (s2 _ _ (s1 _ _ g1)),aA.of (s2 _ _ (s1 _ _ g2)),.inl (by rw[nz];omega)⟩
  ·obtain⟨p,a,b,rfl,hp,ha,hb,rfl⟩:=y;rw[nz]at hi;exact yl q1 q2 i m2 hh p a b hi s1 s2 hp (ha us (aA.of (s2 _ _ (s1 _ _ g1)))) (hb ws (aA.of (s2 _ _ (s1 _ _ g2))))
 ·have o1:DR K m.G (.t ds) u:=R2.drop.top;have o2:DR K m.G (.t es) v:=R2.top;unfold DR at o1 o2;obtain⟨b1,us,rfl,g1,q1⟩:=o1;obtain⟨b2,ws,rfl,g2,q2⟩:=o2;have l1:=q1.len;have l2:=q2.len;refine⟨b1,b2,rfl,.inr ⟨⟨us,b_.same R3.wf.s g1⟩,⟨ws,b_.same R3.wf.s g2⟩,k _ _ _ h2 m c R3 ⟨fun i G2 H2 hi s1 s2=>?_,fun G2 H2 s1 s2=>?_,fun i m2 hh x H3 hi s1 s2 y=>?_⟩⟩⟩
  ·rw[nz]at hi;exact⟨us,ws,us[i],ws[i],b_.same (s1.trans s2) g1,b_.same (s1.trans s2) g2,by simp[l1,hi],by simp[l2,<-hl,hi]⟩
  ·exact⟨us,ws,b_.same (s1.trans s2) g1,b_.same (s1.trans s2) g2,.inl (by rw[nz];omega)⟩
  ·obtain⟨p,a,b,rfl,hp,ha,hb,rfl⟩:=y;rw[nz]at hi;exact yl q1 q2 i m2 hh p a b hi s1 s2 hp (ha us (b_.same (s1.trans s2) g1)) (hb ws (b_.same (s1.trans s2) g2))
end
mutual
def DT.sm:DT->Bool
 |.k _=>true
 |.t l=>decide (l.length<=1000000) && DT.sms l
 |.s l=>decide (l.length<=1000000) && DT.sms l
def DT.sms:List DT->Bool
 |[]=>true
 |a::r=>DT.sm a && DT.sms r
end
theorem Bc:∀{l:List DT}{d:DT},DT.sms l=true->d∈l->DT.sm d=true
 |a::r,d,h,e=>by
  have h':(DT.sm a && DT.sms r)=true:=h;rw[iw]at h';rcases bw.mp e with e|e
  ·rw[e];exact h'.1
  ·exact Bc h'.2 e
def dF(K:Za)(n:Nat):Sp:=HH 2 fun xs h φ=>h=[]/\∃d e,xs=[cR K d,cR K e]/\d.depth<=n/\e.depth<=n/\n<=8/\DT.sm d=true/\φ (.im (bv (decide (d=e)))) []
theorem AZ:∀{ds es:List DT},ds.length=es.length->((ds.zip es).map fun x=>decide (x.1=x.2)).all id=decide (ds=es)
 |[],[],_=>rfl
 |[],_::_,e=>by cases e
 |_::_,[],e=>by cases e
 |d::ds,e::es,hl=>by
  rw[List.zip_cons_cons,bf,rQ,AZ (by simpa using hl)];rw[p9,iw];show(decide (d=e)=true/\_)↔_;rw[decide_eq_true_iff,decide_eq_true_iff,decide_eq_true_iff];exact⟨fun⟨a,b⟩=>by rw[a,b],fun z=>by injection z with a b;exact⟨a,b⟩⟩
theorem qr{n:Nat}{l:List DT}{d:DT}(h:DT.depths l<=n)(e:d∈l):d.depth<=n:=by
 obtain⟨i,hi,rfl⟩:=List.getElem_of_mem e;exact tE h (fh hi)
theorem uP{K:Za}{n:Nat}{sp:Sp}(hsp:∀m,n=m+1->sp=dF K m){φ:Sl->SH->Prop}{ds es:List DT}{d e:DT}(hde:(d=.s ds/\e=.s es)∨(d=.t ds/\e=.t es))(h1:DT.depths ds+1<=n)(h2:DT.depths es+1<=n)(h8:n<=8)(hs:ds.length<=1000000/\DT.sms ds=true)(c:φ (.im (bv (decide (ds=es)))) []):
  SS [cR K d,cR K e] [] (ax (cG (bx (aK HS (dD (cV K) (aE V0)) (dD (cV K) (aE V1)))) (aZ (tC (.bl false))) (bo)) (aZ (dD (Cu K) (az (dQ 2 [] (BB K (ba V0 V1)) (ic K 2 (be U0 (be U1 (g_)))) (ju) (aR sp (ba V0 V1))) bF)))) ⟨fun _ h'=>φ (.im nv) h',φ,fun _ _=>False,fun _ _=>False⟩:=by
 have iv:∃b,C4 K [] (cR K d) b (ds.map (cR K))/\C4 K [] (cR K e) b (es.map (cR K)):=by
  rcases hde with⟨rfl,rfl⟩|⟨rfl,rfl⟩
  ·exact⟨true,.s,.s⟩
  ·exact⟨false,.t,.t⟩
 obtain⟨b,i1,i2⟩:=iv;obtain⟨k,rfl⟩:∃k,n=k+1:=⟨n-1,by omega⟩;have e1:=hsp k rfl;subst e1;refine bZ <| gK <| Gv <| Iv (K:=K) <| Fa <| aF rfl ⟨_,_,i1,Fa <| aF rfl ⟨_,_,i2,_,_,rfl,rfl,_,rfl,?_⟩⟩;rw[am,am];refine ifB (fun z=>?_) (fun z=>?_)
 ·refine iE <| yO ?_;have:decide (ds=es)=false:=zzr0 fun y=>by rw[y]at z;simp at z
  rw[this]at c;exact c
 ·have hl':(ds.length:Int)=es.length:=by simpa using z
  have hl:ds.length=es.length:=by omega
  refine iF <| iE <| Ix <| BI (K:=K) <| Iy (K:=K) <| aF rfl <| aF rfl ⟨ds,es,?_,hl,tK (xs:=ds.zip es) (p:=fun _=>true) (f:=fun x=>bv (decide (x.1=x.2))) ⟨?_,fun x hx=>?_,.inr (.inl ⟨(ds.zip es).map fun x=>bv (decide (x.1=x.2)),?_,(ds.zip es).map fun x=>decide (x.1=x.2),?_,?_⟩)⟩⟩
  ·rcases hde with⟨rfl,rfl⟩|⟨rfl,rfl⟩
   ·exact .inl ⟨rfl,rfl⟩
   ·exact .inr ⟨rfl,rfl⟩
  ·rw[List.length_zip];omega
  ·obtain⟨x1,x2⟩:=x;have m1:=(r_ hx).1;have m2:=(r_ hx).2;refine BK (K:=K) .w rfl <| de <| bA <| de <| bA <| n_ <| wU ⟨rfl,fun _=>?_⟩;refine BJ (K:=K) <| cE <| aF rfl <| cE <| aF rfl <| gu ⟨by simp[plain],Cn.imp (JD (φ:=fun r _=>r=.im (bv (decide (x1=x2)))) ⟨rfl,x1,x2,rfl,qr (by omega) m1,qr (by omega) m2,by omega,Bc hs.2 m1,rfl⟩) fun r h' e=>.inl ⟨_,e,e⟩⟩
  ·have fl:(ds.zip es).filter (fun _=>true)=ds.zip es:=List.filter_eq_self.mpr fun _ _=>rfl;rw[fl];generalize(ds.zip es).map (fun x=>bv (decide (x.1=x.2)))=L
   induction L with
   |nil=>exact .nil
   |cons a L ih=>exact .cons ih
  ·rw[dR];rfl
  ·rw[AZ hl];exact c
theorem DH{K:Za}{n:Nat}{sp:Sp}(hsp:∀m,n=m+1->sp=dF K m){vs:List V}{H:Hp}{Q:VK}{E:XK}(q:dF K n vs H Q E):xV K sp (bT Q) (start y2 vs) H:=by
 refine body q ?_;rintro _ _ φ ⟨rfl,d,e,rfl,h1,h2,h8,hs,c⟩;refine bZ <| gK <| jZ <| Iw <| aF rfl ⟨_,.d,_,rfl,bu <| iF ?_⟩;have no:¬d=e->φ (.im (bv false)) []:=fun z=>by rw[zzr0 z]at c;exact c
 cases e with
 |k a =>
  cases a with
  |inl i =>
   refine bZ <| gK <| jZ <| dJ <| aF rfl ⟨_,false,rfl,rfl,_,rfl,bu <| iF ?_⟩;refine bZ <| gK <| jZ <| dJ <| aF rfl ⟨_,false,rfl,rfl,_,rfl,bu <| iF ?_⟩;refine bZ <| gK <| jZ <| dJ <| aF rfl ⟨_,true,rfl,rfl,_,rfl,bE <| iE <| wT <| dJ <| aF rfl ?_⟩;cases d with
   |k b =>
    cases b with
    |inl j=>exact⟨_,true,rfl,rfl,_,rfl,bE <| wT <| Gr <| dJ <| aF rfl ⟨_,false,rfl,rfl,_,rfl,_,rfl,bE <| Fc <| aF rfl <| aF rfl ⟨_,_,.d,.d,bR _,bR _,c⟩⟩⟩
    |inr j=>exact⟨_,false,rfl,rfl,_,rfl,bu <| no nofun⟩
   |t l=>exact⟨_,false,rfl,rfl,_,rfl,bu <| no nofun⟩
   |s l=>exact⟨_,false,rfl,rfl,_,rfl,bu <| no nofun⟩
  |inr i =>
   refine bZ <| gK <| jZ <| dJ <| aF rfl ⟨_,false,rfl,rfl,_,rfl,bu <| iF ?_⟩;refine bZ <| gK <| jZ <| dJ <| aF rfl ⟨_,true,rfl,rfl,_,rfl,bE <| iE <| wT <| dJ <| aF rfl ?_⟩;cases d with
   |k b =>
    cases b with
    |inl j=>exact⟨_,false,rfl,rfl,_,rfl,bu <| no nofun⟩
    |inr j=>exact⟨_,true,rfl,rfl,_,rfl,bE <| Fc <| aF rfl <| aF rfl ⟨_,_,.d,.d,bR _,bR _,c⟩⟩
   |t l=>exact⟨_,false,rfl,rfl,_,rfl,bu <| no nofun⟩
   |s l=>exact⟨_,false,rfl,rfl,_,rfl,bu <| no nofun⟩
 |t le =>
  refine bZ <| gK <| jZ <| dJ <| aF rfl ⟨_,false,rfl,rfl,_,rfl,bu <| iF ?_⟩;refine bZ <| gK <| jZ <| dJ <| aF rfl ⟨_,false,rfl,rfl,_,rfl,bu <| iF ?_⟩;refine bZ <| gK <| jZ <| dJ <| aF rfl ⟨_,false,rfl,rfl,_,rfl,bu <| iF ?_⟩;refine bZ <| gK <| wV <| jZ <| dJ <| aF rfl ⟨_,true,rfl,rfl,_,rfl,bE <| Fd <| jZ <| dJ <| aF rfl ?_⟩;cases d with
  |k b=>cases b<;>exact⟨_,false,rfl,rfl,_,rfl,bE <| iE <| yO <| no nofun⟩
  |s l=>exact⟨_,false,rfl,rfl,_,rfl,bE <| iE <| yO <| no nofun⟩
  |t ld =>
   refine⟨_,true,rfl,rfl,_,rfl,bu <| iF <| bZ <| gK <| wV <| jZ <| dJ <| aF rfl ⟨_,false,rfl,rfl,_,rfl,bu <| bu <| iF ?_⟩⟩;have r:=uP (K:=K) (φ:=φ) (ds:=ld) (es:=le) hsp (.inr ⟨rfl,rfl⟩) h1 h2 h8 ?_ ?_
   ·exact r
   ·have:(decide (ld.length<=1000000) && DT.sms ld)=true:=hs;rw[iw]at this;exact⟨of_decide_eq_true this.1,this.2⟩
   ·have:decide (DT.t ld=DT.t le)=decide (ld=le):=by
     rw[p9,decide_eq_true_iff,decide_eq_true_iff];exact⟨fun z=>by injection z,fun z=>by rw[z]⟩
    rw[this]at c;exact c
 |s le =>
  refine bZ <| gK <| jZ <| dJ <| aF rfl ⟨_,false,rfl,rfl,_,rfl,bu <| iF ?_⟩;refine bZ <| gK <| jZ <| dJ <| aF rfl ⟨_,false,rfl,rfl,_,rfl,bu <| iF ?_⟩;refine bZ <| gK <| jZ <| dJ <| aF rfl ⟨_,false,rfl,rfl,_,rfl,bu <| iF ?_⟩;refine bZ <| gK <| wV <| jZ <| dJ <| aF rfl ⟨_,false,rfl,rfl,_,rfl,bu <| bu <| iF ?_⟩;refine bZ <| gK <| wV <| jZ <| dJ <| aF rfl ⟨_,true,rfl,rfl,_,rfl,bE <| Fd <| jZ <| dJ <| aF rfl ?_⟩;cases d with
  |k b=>cases b<;>exact⟨_,false,rfl,rfl,_,rfl,bE <| iE <| yO <| no nofun⟩
  |t l=>exact⟨_,false,rfl,rfl,_,rfl,bE <| iE <| yO <| no nofun⟩
  |s ld =>
   refine⟨_,true,rfl,rfl,_,rfl,bu <| iF ?_⟩;have r:=uP (K:=K) (φ:=φ) (ds:=ld) (es:=le) hsp (.inl ⟨rfl,rfl⟩) h1 h2 h8 ?_ ?_
   ·exact r
   ·have:(decide (ld.length<=1000000) && DT.sms ld)=true:=hs;rw[iw]at this;exact⟨of_decide_eq_true this.1,this.2⟩
   ·have:decide (DT.s ld=DT.s le)=decide (ld=le):=by
     rw[p9,decide_eq_true_iff,decide_eq_true_iff];exact⟨fun z=>by injection z,fun z=>by rw[z]⟩
    rw[this]at c;exact c
theorem i5(a b c:Str):a++b++c=a++(b++c):=lH (by simp[cU])
theorem Jl(a:Str):a++("":Str)=a:=lH (by rw[cU];exact fD _)
theorem Jt(a:Str):("":Str)++a=a:=lH (by rw[cU];rfl)
theorem fB(a b:Str):(a++b).length=a.length+b.length:=by rw[br,br,br,cU,bp]
def EW(z:Str):List Str->Str
 |[]=>""
 |y::ys=>ys.foldl (fun a p=>a++z++p) y
theorem pI(z:Str)(ys:Zb):mo z ys=EW z ys:=by
 unfold mo cO.Str.glued;cases ys with
 |nil=>rfl
 |cons y ys =>
  have:∀(ys:Zb) (y:Str),(⟨ys.foldl (fun acc p=>acc++z.cps++p.cps) y.cps⟩:Str)=ys.foldl (fun a p=>a++z++p) y:=by
   intro ys
   induction ys with
   |nil=>intro y;rfl
   |cons x ys ih=>intro y;rw[oA,oA,<-ih];rfl
  exact this ys y
def gh(ws:Zb):Str:=EW " " ws
def dj(rows:List (List Str)):Str:=rows.foldl (fun acc r=>acc++(gh r++"\n")) ""
theorem mB(rows:List (List Str))(r:Zb):dj (rows++[r])=dj rows++(gh r++"\n"):=by unfold dj;rw[rH];rfl
theorem EU(ls:Zb):EW "" ls=ls.foldl (fun(a p:Str)=>a++p) ("":Str):=by
 cases ls with
 |nil=>rfl
 |cons y ys =>
  have e:(fun(a p:Str)=>a++("":Str)++p)=fun(a p:Str)=>a++p:=by funext a p;rw[Jl]
  show ys.foldl (fun(a p:Str)=>a++("":Str)++p) y=ys.foldl (fun(a p:Str)=>a++p) (("":Str)++y);rw[e,Jt]
theorem B8(rows:List (List Str)):EW "" ((rows.map gh).map fun l=>l++"\n")=dj rows:=by
 rw[EU,dR,List.foldl_map];rfl
theorem gq:∀(ys:Zb) (y:Str),(∀w∈ys,w.length<=8)->(ys.foldl (fun(a p:Str)=>a++(" ":Str)++p) y).length<=y.length+9 * ys.length
 |[],y,_=>by simp
 |p::ys,y,h=>by
  rw[oA];have:=gq ys (y++(" ":Str)++p) fun w hw=>h w (cj _ hw);rw[fB,fB]at this;have h1:=h p cp;have h2:(" ":Str).length=1:=by decide +kernel
  rw[cw];omega
def qv(r:Zb):Prop:=r.length<=151/\∀w∈r,w.length<=8
theorem Bf{r:Zb}(h:qv r):(gh r).length<=1359:=by
 cases r with
 |nil=>exact bR _
 |cons y ys =>
  have:=gq ys y fun w hw=>h.2 w (cj _ hw);have h1:=h.2 y cp;have h2:=h.1;rw[cw]at h2;show(ys.foldl _ y).length<=1359;omega
theorem Js:("\n":Str).length=1:=by decide +kernel
theorem we:(" ":Str).length=1:=by decide +kernel
theorem sj:∀{rows:List (List Str)},(∀r∈rows,qv r)->(dj rows).length<=1360 * rows.length:=by
 intro rows;refine kK (fun rows=>(∀r∈rows,qv r)->(dj rows).length<=1360 * rows.length) (fun _=>bR _) (fun rows r ih h=>?_) rows;have h1:=ih fun x hx=>h x (cJ _ hx);have h2:=Bf (h r (by simp));rw[mB,fB,fB,Js,bp];show _<=1360 * (rows.length+1);omega
theorem qW{k:Nat}:∀{ys:Zb},(∀w∈ys,w.length<=k)->(ys.map (·.length)).sum<=k * ys.length
 |[],_=>by simp
 |y::ys,h=>by
  have h1:=qW fun w hw=>h w (cj _ hw);have h2:=h y cp;rw[bf,oy,cw,Nat.mul_add];omega
def aI(d:aq):List Str:=d.a::d.sg++[d.b]
def aU(J0 J4 J5:Zb):List (List Str):=[("asks":Str)::J0,("says":Str)::J4,("rooms":Str)::J5]
def bt(J0 J4 J5:Zb)(ds:List aq):List (List Str):=aU J0 J4 J5++ds.map aI
section
variable{J0 J4 J5:Zb}{ds:List aq}
theorem cg.door(m:cg J0 J4 J5 ds){d:aq}(hd:d∈ds):qv (aI d):=by
 obtain⟨a,b,sg⟩:=m.good d hd;have nm:∀{w ws},eJ ws->w∈ws->w.length<=8:=fun h e=>(h.2 _ e).hi;have h1:=nm m.okR a;have h2:=nm m.okR b;unfold aI;rcases sg with⟨w,hw,e⟩|⟨w,hw,e⟩|e
 ·rw[e];have h3:=nm m.okA hw;refine⟨by simp,fun x hx=>?_⟩;have hx':x=d.a∨x=("ask":Str)∨x=w∨x=d.b:=by simpa using hx
  rcases hx' with rfl|rfl|rfl|rfl
  ·exact h1
  ·decide +kernel
  ·exact h3
  ·exact h2
 ·rw[e];have h3:=nm m.okS hw;refine⟨by simp,fun x hx=>?_⟩;have hx':x=d.a∨x=("say":Str)∨x=w∨x=d.b:=by simpa using hx
  rcases hx' with rfl|rfl|rfl|rfl
  ·exact h1
  ·decide +kernel
  ·exact h3
  ·exact h2
 ·rw[e];refine⟨by unfold aG;simp,fun x hx=>?_⟩;have hx':x=d.a∨x=("still":Str)∨x=d.b:=by unfold aG at hx;simpa using hx
  rcases hx' with rfl|rfl|rfl
  ·exact h1
  ·decide +kernel
  ·exact h2
theorem wO{hd:Str}{ws:Zb}(h:eJ ws)(hl:ws.length<=150)(hh:hd.length<=8):qv (hd::ws):=⟨by rw[cw];omega,fun x hx=>by
 rcases bw.mp hx with rfl|hx
 ·exact hh
 ·exact(h.2 _ hx).hi⟩
theorem cg.heads(m:cg J0 J4 J5 ds):∀r∈aU J0 J4 J5,qv r:=fun r hr=>by
 have h1:=m.asks4;have h2:=m.says4;have hr':r=("asks":Str)::J0∨r=("says":Str)::J4∨r=("rooms":Str)::J5:=by unfold aU at hr;simpa using hr
 rcases hr' with rfl|rfl|rfl
 ·exact wO m.okA (by omega) (by decide +kernel)
 ·exact wO m.okS (by omega) (by decide +kernel)
 ·exact wO m.okR m.rooms26 (by decide +kernel)
theorem cg.rows(m:cg J0 J4 J5 ds):∀r∈bt J0 J4 J5 ds,qv r:=fun r hr=>by
 rcases bJ.mp hr with h|h
 ·exact m.heads r h
 ·obtain⟨d,hd,rfl⟩:=aO.mp h;exact m.door hd
end
def zO(K:Za):Sp:=HH 1 fun xs h φ=>h=[]/\∃d,qv (aI d)/\xs=[cR K (j1 d)]/\φ (cR K (aS (gh (aI d)))) []
theorem sZ:(2000000:Nat)<=aj:=by decide
theorem HN{K:Za}{vs:List V}{H:Hp}{Q:VK}{E:XK}(q:zO K vs H Q E):t8 K (bT Q) (start uv vs) H:=by
 refine body q ?_;rintro _ _ φ ⟨rfl,d,ok,rfl,c⟩;have k9:=sZ;have hlen:d.sg.length+2<=151:=by have:=ok.1;unfold aI at this;simp at this;omega
 refine bZ <| iG <| aF rfl <| wX (K:=K) rfl <| de <| bA <| de <| bA <| de <| bA <| n_ ?_;refine iE <| wS (K:=K) <| pN (K:=K) <| pN (K:=K) <| mN (K:=K) <| cE <| aF rfl <| gu ⟨by show 1<=aj;decide,.inl ⟨_,.cons .nil,?_⟩⟩;refine Gu <| aF rfl ⟨_,_,.t,ka ⟨_,_,.s,.s,?_,ka ?_⟩⟩
 ·rw[am];show 1+_<=_;omega
 refine mN (K:=K) <| cE <| aF rfl <| gu ⟨by show 1<=aj;decide,.inl ⟨_,.cons .nil,_,_,.s,.s,?_,ka ⟨aI d,?_,?_,?_⟩⟩⟩
 ·rw[bp,am];show 1+_+1<=_;omega
 ·have e:[aS d.a]++d.sg.map aS++[aS d.b]=(aI d).map aS:=by unfold aI;simp
  rw[e];exact .s
 ·have h1:=qW ok.2;have h2:=ok.1;rw[we];omega
 ·rw[pI];exact c
def kN(C:Addr):Sp:=fun vs H Q _=>∃(x dx o4:Addr) (fs:List (Str×V)) (ts:Ze),vs=[.ref x]/\H x=some (.ins C dx fs)/\lk "own_doors" fs=some (.ref o4)/\H o4=some (.lst (ts.map V.ref))/\∀l,H l=none->Q (.ref l) (upd H l (.lst (ts.map V.ref)))
theorem DV{K:Za}{C:Addr}(M:MC K C){vs:List V}{H:Hp}{Q:VK}{E:XK}(h:kN C vs H Q E):qA K (bT Q) (start qS vs) H:=by
 obtain⟨x,dx,o4,fs,ts,rfl,g1,b4,a4,k⟩:=h;exact⟨_,rfl,x,C,dx,fs,.ref o4,rfl,g1,M.cls,M.a4,b4,.inl ⟨o4,_,rfl,.inl (aA.of a4),k⟩⟩
theorem Fn{K:Za}{C:Addr}{J0 J4 J5:Zb}{ds:List aq}:Cn (kN C) [.im (mv C J0 J4 J5 ds)] [] (fun r h'=>r=.lc 0/\h'=[(0,.lst ((ds.map j1).map (cR K)))]):=by
 intro us m Q E _ W hx f;obtain⟨u,rfl,x,rfl,hm⟩:=Bo hx;obtain⟨dx,fs,o1,o2,o3,o4,lv,qu,sg,sl,ts,lps,gps,sps,g1,a1,a2,a3,a4,b1,b2,b3,b4,b5,b6,b7,b8,L,_⟩:=hm.at_;refine⟨x,dx,o4,fs,ts,rfl,W.s _ _ g1,b4,W.s _ _ L.a4,fun l hl=>?_⟩;obtain⟨F,W'⟩:=BH W (ae.new (o:=.lst (ts.map V.ref)) hl);exact yN W f F W' hl aa (wu _) (Br (lT L.ds)) ⟨rfl,rfl⟩
def iH(K:Za)(C:Addr):Sp:=HH 1 fun xs h φ=>h=[]/\∃J0 J4 J5 ds,cg J0 J4 J5 ds/\xs=[.im (mv C J0 J4 J5 ds)]/\φ (cR K (aS (dj (bt J0 J4 J5 ds)))) []
theorem pK{α:Type}(xs:List α):(xs.filter fun _=>true)=xs:=List.filter_eq_self.mpr fun _ _=>rfl
theorem DG{K:Za}{C:Addr}{vs:List V}{H:Hp}{Q:VK}{E:XK}(q:iH K C vs H Q E):FN K C (kN C) (zO K) (jw C) (lJ C) (lM C) (bT Q) (start GO vs) H:=by
 refine body q ?_;rintro _ _ φ ⟨rfl,J0,J4,J5,ds,m,rfl,c⟩;have k9:=sZ;have z1:=m.asks4;have z2:=m.says4;have z3:=m.rooms26;have z4:=m.few;refine bZ <| iG <| mN (K:=K) <| cE <| pN (K:=K) <| mN (K:=K) <| cE <| gr (K:=K) <| gu ⟨by show 1<=aj;decide,.inl ⟨_,.cons .nil,?_⟩⟩;refine n6 (K:=K) (L:=J0.map aS) (by simp) GI <| aF rfl ⟨rfl,ka ⟨_,_,.s,.s,by rw[am];show 1+_<=_;omega,ka ?_⟩⟩;refine cE <| pN (K:=K) <| mN (K:=K) <| cE <| gr (K:=K) <| gu ⟨by show 1<=aj;decide,.inl ⟨_,.cons .nil,?_⟩⟩;refine n6 (K:=K) (L:=J4.map aS) (by simp) GH <| aF rfl ⟨rfl,ka ⟨_,_,.s,.s,by rw[am];show 1+_<=_;omega,ka ?_⟩⟩;refine cE <| pN (K:=K) <| mN (K:=K) <| cE <| gr (K:=K) <| gu ⟨by show 1<=aj;decide,.inl ⟨_,.cons .nil,?_⟩⟩;refine n6 (K:=K) (L:=J5.map aS) (by simp) Fm <| aF rfl ⟨rfl,ka ⟨_,_,.s,.s,by rw[am];show 1+_<=_;omega,ka ?_⟩⟩;refine gu ⟨by show 3<=aj;decide,.inl ⟨_,.cons (.cons (.cons .nil)),bA ?_⟩⟩;have eR:DT.s [.s ([aS "asks"]++J0.map aS),.s ([aS "says"]++J4.map aS),.s ([aS "rooms"]++J5.map aS)]=.s ((aU J0 J4 J5).map fun ws=>.s (ws.map aS)):=rfl;rw[eR];refine bZ <| iG <| pN (K:=K) <| tz <| aF rfl ⟨List Str,aU J0 J4 J5,fun ws=>dv K (.s (ws.map aS)),fun _=>true,fun ws=>dv K (aS (gh ws)),_,rfl,yD,by show 3<=_;decide,fun ws hw=>?_,?_⟩
 ·have ok:=m.heads ws hw;refine bA <| wU ⟨rfl,fun _=>wS (K:=K) <| aF rfl ⟨ws,.s,?_,?_⟩⟩
  ·have h1:=qW ok.2;have h2:=ok.1;rw[we];omega
  ·rw[pI];rfl
 rw[pK];refine Af ?_;refine tz <| n6 (K:=K) (L:=ds.map j1) (by simp) Fn <| aF rfl ⟨rfl,ka ⟨aq,ds,fun d=>dv K (j1 d),fun _=>true,fun d=>dv K (aS (gh (aI d))),_,rfl,yD,by omega,fun d hd=>?_,?_⟩⟩
 ·exact bA <| wU ⟨rfl,fun _=>BJ (K:=K) <| cE <| aF rfl <| gu ⟨by simp[plain],Cn.imp (JD (φ:=fun r _=>r=cR K (aS (gh (aI d)))) ⟨rfl,d,m.door hd,rfl,rfl⟩) fun r h' e=>.inl ⟨_,e,e⟩⟩⟩
 rw[pK];refine Af ⟨_,_,.s,.s,?_,ka <| bA ?_⟩
 ·rw[am,am];show 3+_<=_;omega
 have eL:((aU J0 J4 J5).map fun ws=>aS (gh ws))++(ds.map fun d=>aS (gh (aI d)))=((bt J0 J4 J5 ds).map gh).map aS:=by
  unfold bt;rw[aQ,aQ,dR,dR,dR]
  rfl
 rw[eL];have rl:(bt J0 J4 J5 ds).length<=1003:=by unfold bt;rw[bp,am];show 3+_<=1003;omega
 have lok:∀l∈(bt J0 J4 J5 ds).map gh,l.length<=1359:=fun l hl=>by
  obtain⟨r,hr,rfl⟩:=aO.mp hl;exact Bf (m.rows r hr)
 generalize hL:(bt J0 J4 J5 ds).map gh=L at lok;have ll:L.length<=1003:=by rw[<-hL,am];exact rl
 refine iE <| wS (K:=K) <| tz <| aF rfl ⟨Str,L,fun l=>dv K (aS l),fun _=>true,fun l:Str=>dv K (aS (l++("\n":Str))),_,rfl,yD,by omega,fun l hl=>?_,?_⟩
 ·exact bA <| wU ⟨rfl,fun _=>fR (K:=K) <| aF rfl <| gr (K:=K) ⟨_,_,rfl,rfl,by rw[Js];have:=lok l hl;omega,rfl⟩⟩
 rw[pK];refine Af ⟨L.map fun l:Str=>l++("\n":Str),?_,?_,?_⟩
 ·rw[dR];exact .s
 ·have h1:∀w∈L.map (fun l:Str=>l++("\n":Str)),w.length<=1360:=fun w hw=>by
   obtain⟨l,hl,rfl⟩:=aO.mp hw;rw[fB,Js];have:=lok l hl;omega
  have h2:=qW h1;rw[am]at h2 ⊢;have h3:("":Str).length=0:=by decide +kernel
  rw[h3];omega
 ·rw[pI,<-hL,B8];exact c
theorem fg0{s:List Sl}(e:s.all (tj [])=true:=by rfl):Fg s [] []:=⟨List.Sublist.refl _,e,rfl,fun _ _ z=>nomatch z⟩
theorem GR{s s':List Sl}{I:List Sl->SH->Prop}(w:Wk s s')(i:I s' [])(e:s'.all (tj [])=true:=by rfl):JF s [] I:=⟨s',[],w,fg0 e,i⟩
theorem wW{α:Type}{xs:List α}{enc:α->AV}{i:Nat}(hi:i<(xs.map enc).length):∃a,xs[i]?=some a/\Au (xs.map enc) i=enc a:=by
 rw[am]at hi;refine⟨xs[i],by simp[hi],?_⟩;unfold Au;rw[rF,cb];simp[hi]
abbrev gs(a p:Str):Str:=a++(" ":Str)++p
theorem vb{ws:Zb}{j:Nat}{w:Str}(h:ws[j]?=some w)(a:Str):(ws.take (j+1)).foldl gs a=gs ((ws.take j).foldl gs a) w:=by rw[take_snoc h,rH];rfl
def jP(K:Za):Sp:=HH 1 fun xs h φ=>h=[]/\∃J0 J4 J5 ds,cg J0 J4 J5 ds/\xs=[cR K (GS J0 J4 J5 ds)]/\φ (cR K (aS (dj (bt J0 J4 J5 ds)))) []
theorem zR{K:Za}{vs:List V}{H:Hp}{Q:VK}{E:XK}(q:jP K vs H Q E):t9 K (bT Q) (start uw vs) H:=by
 refine body q ?_;rintro _ _ φ ⟨rfl,J0,J4,J5,ds,m,rfl,c⟩;have k9:=sZ;have z1:=m.asks4;have z2:=m.says4;have z3:=m.rooms26;have z4:=m.few;refine bZ <| iG <| aF rfl <| wX (K:=K) rfl <| de <| bA <| de <| bA <| de <| bA <| de <| bA <| n_ ?_;refine bZ <| iG <| gr (K:=K) <| bA ?_;refine bZ <| v_ <| rm <| mN (K:=K) <| cE <| As (K:=K) <| cE <| gr (K:=K) <| cE <| aF rfl <| gu ⟨_,.cons (.cons .nil),by show 2<=aj;decide,?_⟩;refine cE <| As (K:=K) <| cE <| gr (K:=K) <| cE <| aF rfl <| gu ⟨_,.cons (.cons .nil),by show 2<=aj;decide,?_⟩;refine cE <| As (K:=K) <| cE <| gr (K:=K) <| cE <| aF rfl <| gu ⟨_,.cons (.cons .nil),by show 2<=aj;decide,?_⟩
 let H3:List (Str×List Str):=[("asks",J0),("says",J4),("rooms",J5)]
 have e3:aU J0 J4 J5=H3.map fun x=>x.1::x.2:=rfl;refine gu ⟨by show 3<=aj;decide,.inl ⟨_,.cons (.cons (.cons .nil)),_,H3.map (fun x=>dv K (.t [aS x.1,.s (x.2.map aS)])),rfl,.s,fun i s' h'=>h'=[]/\s'=[cR K (GS J0 J4 J5 ds),cR K (.s (J0.map aS)),cR K (.s (J4.map aS)),cR K (.s (J5.map aS)),cR K (.s (ds.map j1)),cR K (aS (dj ((aU J0 J4 J5).take i))),.no,.no,.no,.no,.no,.no,.no],GR (.refl _) ⟨rfl,rfl⟩,?_,?_⟩⟩
 ·rintro i s' h' hi ⟨rfl,rfl⟩;obtain⟨⟨hd,ws⟩,hx,el⟩:=wW (enc:=fun x:Str×List Str=>dv K (.t [aS x.1,.s (x.2.map aS)])) hi;rw[el];have hr:(aU J0 J4 J5)[i]?=some (hd::ws):=by rw[e3,cb,hx];rfl
  have ok:=m.heads _ (cu hr);have hi3:i<3:=hi;have tl:(dj ((aU J0 J4 J5).take i)).length<=1360 * i:=by
   have:=sj (rows:=(aU J0 J4 J5).take i) fun r hr=>m.heads r (gW hr);rw[aP]at this;exact bj this (Nat.mul_le_mul_left _ (Nat.min_le_left _ _))
  have hd8:=ok.2 hd cp;have wl:ws.length<=150:=by have:=ok.1;rw[cw]at this;omega
  have w8:∀w∈ws,w.length<=8:=fun w hw=>ok.2 w (cj _ hw);generalize hA:dj ((aU J0 J4 J5).take i)=acc at tl;refine wX (K:=K) rfl <| de <| bA <| de <| bA <| n_ ?_;refine bZ <| iG <| fR (K:=K) <| aF rfl <| aF rfl ⟨_,_,rfl,rfl,by show acc.length+hd.length<=_;omega,bA ?_⟩;refine bZ <| v_ <| rm <| aF rfl ⟨_,ws.map (fun w=>dv K (aS w)),rfl,yD,fun j s' h'=>h'=[]/\s'=[cR K (GS J0 J4 J5 ds),cR K (.s (J0.map aS)),cR K (.s (J4.map aS)),cR K (.s (J5.map aS)),cR K (.s (ds.map j1)),cR K (aS (acc++(ws.take j).foldl gs hd)),.no,.no,.no,.no,.no,.no,.no],GR (.cons (.cons (.cons (.cons (.cons (.cons (.no (.no (.no (.no (.no (.no (.no oU))))))))))))) ⟨rfl,rfl⟩,?_,?_⟩
  ·rintro j s' h' hj ⟨rfl,rfl⟩;obtain⟨w,hw,el⟩:=wW (enc:=fun w=>dv K (aS w)) hj;rw[el];have fl:=gq (ws.take j) hd fun w hw=>w8 w (gW hw);have tk:(ws.take j).length<=150:=by rw[aP];omega
   have w8':=w8 w (cu hw);refine bA <| iG <| fR (K:=K) <| fR (K:=K) <| aF rfl <| gr (K:=K) ⟨_,_,rfl,rfl,?_,aF rfl ⟨_,_,rfl,rfl,?_,bA <| GR (.cons (.cons (.cons (.cons (.cons (.cons (.no (.no (.no (.no (.no (.no (.no oU))))))))))))) ⟨rfl,?_⟩⟩⟩
   ·rw[fB,we];have:((ws.take j).foldl gs hd).length<=hd.length+9 * (ws.take j).length:=fl;omega
   ·rw[fB,fB,we];have:((ws.take j).foldl gs hd).length<=hd.length+9 * (ws.take j).length:=fl;omega
   ·rw[vb hw];show _=[_,_,_,_,_,cR K (aS (acc++(gs _ w))),_,_,_,_,_,_,_];unfold gs;rw[i5,i5,i5]
  ·rintro s' h' ⟨rfl,rfl⟩;rw[am,cZ];have fl:(ws.foldl gs hd).length<=hd.length+9 * ws.length:=gq ws hd w8;refine iG <| fR (K:=K) <| aF rfl <| gr (K:=K) ⟨_,_,rfl,rfl,by rw[fB,Js];omega,bA <| GR (.cons (.cons (.cons (.cons (.cons (.cons (.no (.no (.no (.no (.no (.no (.no oU))))))))))))) ⟨rfl,?_⟩⟩;rw[take_snoc hr,mB,hA];show _=[_,_,_,_,_,cR K (aS (acc++(ws.foldl gs hd++("\n":Str)))),_,_,_,_,_,_,_];rw[i5]
 ·rintro s' h' ⟨rfl,rfl⟩;have e0:(aU J0 J4 J5).take (H3.map (fun x=>dv K (.t [aS x.1,.s (x.2.map aS)]))).length=aU J0 J4 J5:=rfl;rw[e0];refine bZ <| v_ <| rm <| aF rfl ⟨_,ds.map (fun d=>dv K (j1 d)),rfl,yD,fun i s' h'=>h'=[]/\s'=[cR K (GS J0 J4 J5 ds),cR K (.s (J0.map aS)),cR K (.s (J4.map aS)),cR K (.s (J5.map aS)),cR K (.s (ds.map j1)),cR K (aS (dj (aU J0 J4 J5++(ds.take i).map aI))),.no,.no,.no,.no,.no,.no,.no],GR (.refl _) ⟨rfl,?_⟩,?_,?_⟩
  ·show _=[_,_,_,_,_,cR K (aS (dj (aU J0 J4 J5++[]))),_,_,_,_,_,_,_];rw[fD]
  ·rintro i s' h' hi ⟨rfl,rfl⟩;obtain⟨d,hx,el⟩:=wW (enc:=fun d=>dv K (j1 d)) hi;rw[el];have hi7:i<1000:=by rw[am]at hi;omega
   have ok:=m.door (cu hx);have tl:(dj (aU J0 J4 J5++(ds.take i).map aI)).length<=1360 * 1003:=by
    have:=sj (rows:=aU J0 J4 J5++(ds.take i).map aI) fun r hr=>by
     rcases bJ.mp hr with h|h
     ·exact m.heads r h
     ·obtain⟨d',hd',rfl⟩:=aO.mp h;exact m.door (gW hd')
    refine bj this (Nat.mul_le_mul_left _ ?_);rw[bp,am,aP];show 3+_<=1003;omega
   have snoc:dj (aU J0 J4 J5++(ds.take (i+1)).map aI)=dj (aU J0 J4 J5++(ds.take i).map aI)++(gh (aI d)++("\n":Str)):=by
    rw[take_snoc hx,aQ,<-dA];exact mB _ _
   generalize hA:dj (aU J0 J4 J5++(ds.take i).map aI)=acc at tl snoc;have a8:=ok.2 d.a (by unfold aI;simp);have b8:=ok.2 d.b (by unfold aI;simp);have w8:∀w∈d.sg,w.length<=8:=fun w hw=>ok.2 w (by unfold aI;simp[hw]);have sl:d.sg.length<=149:=by have:=ok.1;unfold aI at this;simp at this;omega
   refine wX (K:=K) rfl <| de <| bA <| de <| bA <| de <| bA <| n_ ?_;refine bZ <| iG <| fR (K:=K) <| aF rfl <| aF rfl ⟨_,_,rfl,rfl,by omega,bA ?_⟩;refine bZ <| v_ <| Iz <| aF rfl ⟨_,d.sg.map (fun w=>dv K (aS w)),rfl,Jw,fun j s' h'=>h'=[]/\s'=[cR K (GS J0 J4 J5 ds),cR K (.s (J0.map aS)),cR K (.s (J4.map aS)),cR K (.s (J5.map aS)),cR K (.s (ds.map j1)),cR K (aS (acc++(d.sg.take j).foldl gs d.a)),.no,.no,.no,.no,.no,cR K (aS d.b),.no],GR (.cons (.cons (.cons (.cons (.cons (.cons (.no (.no (.no (.no (.no (.cons (.no oU))))))))))))) ⟨rfl,rfl⟩,?_,?_⟩
   ·rintro j s' h' hj ⟨rfl,rfl⟩;obtain⟨w,hw,el⟩:=wW (enc:=fun w=>dv K (aS w)) hj;rw[el];have fl:((d.sg.take j).foldl gs d.a).length<=d.a.length+9 * (d.sg.take j).length:=gq (d.sg.take j) d.a fun w hw=>w8 w (gW hw);have tk:(d.sg.take j).length<=149:=by rw[aP];omega
    have w8':=w8 w (cu hw);refine bA <| iG <| fR (K:=K) <| fR (K:=K) <| aF rfl <| gr (K:=K) ⟨_,_,rfl,rfl,?_,aF rfl ⟨_,_,rfl,rfl,?_,bA <| GR (.cons (.cons (.cons (.cons (.cons (.cons (.no (.no (.no (.no (.no (.cons (.no oU))))))))))))) ⟨rfl,?_⟩⟩⟩
    ·rw[fB,we];omega
    ·rw[fB,fB,we];omega
    ·rw[vb hw];show _=[_,_,_,_,_,cR K (aS (acc++(gs _ w))),_,_,_,_,_,_,_];unfold gs;rw[i5,i5,i5]
   ·rintro s' h' ⟨rfl,rfl⟩;rw[am,cZ];have fl:(d.sg.foldl gs d.a).length<=d.a.length+9 * d.sg.length:=gq d.sg d.a w8;refine iG <| fR (K:=K) <| fR (K:=K) <| fR (K:=K) <| aF rfl <| gr (K:=K) ⟨_,_,rfl,rfl,?_,aF rfl ⟨_,_,rfl,rfl,?_,gr (K:=K) ⟨_,_,rfl,rfl,?_,bA <| GR (.cons (.cons (.cons (.cons (.cons (.cons (.no (.no (.no (.no (.no (.no (.no oU))))))))))))) ⟨rfl,?_⟩⟩⟩⟩
    ·rw[fB,we];omega
    ·rw[fB,fB,we];omega
    ·rw[fB,fB,fB,we,Js];omega
    ·rw[snoc];have er:gh (aI d)=d.sg.foldl gs d.a++(" ":Str)++d.b:=by
      show(d.sg++[d.b]).foldl gs d.a=_;rw[rH];rfl
     rw[er];simp only[i5]
  ·rintro s' h' ⟨rfl,rfl⟩;rw[am,cZ];exact iE <| aF rfl c
def t_(K:Za):TS :=
 aZ (tC (.str "abcdefghijklmnopqrstuvwxyz"))
def ux:List Str:=[]
def ub(K:Za)(sp_law_letters:Sp):TS :=
 aZ (iC (Dy HU HU (tC (.int 1)) (dD (cV K) (aE V0)) (tC (.int 8))) (dD (Cu K) (aE (dQ 1 [] (Ir V0) U0 (ju) (aK Jn V0 (aR sp_law_letters bF))))))
def uz:List Str:=["word"]
def ni(K:Za)(sp_law_is_name:Sp):TS :=
 ax (cG (bx (aK (um K) V0 (eI (bF)))) (aZ (tC (.int 0))) (bo))
 (ax (fJ (lh K (aE (mZ (jj K) V0 (bI) (cy V1)))) (ic K 2 (be U3 (be U4 (g_)))) (cG (C8 (sw (tB (aR sp_law_is_name (aE V4)))) (C8 (bx (aK (nR K false) V4 (mZ (jj K) V0 (bI) (cy V3)))) (bx (aK (nR K false) V4 V2)))) (aZ V3) (bo)))
 (ax (cG (bx (aK Cr (dD (cV K) (aE V0)) V1)) (aZ V1) (bo))
 (aZ (tC .non))))
def oq:List Str:=["words","most","others","number","word"]
def o7(K:Za):TS :=
 ax (eE (zL K (gH V0 V1 V2)))
 (ax (Be K V0 V1 "part")
 (Be K V0 V2 "number"))
def pV:List Str:=["self","part","number"]
def vW(C:Addr)(sp_i:Sp)(E:XK):TS:=cG (tB (A_ V1)) (zA C sp_i E (ba V0 V1)) (bo)
structure XC(K:Za)(Cx:Addr):Prop where
 cls:j3 K Cx
 p:c9 K Cx "part"
 n:c9 K Cx "number"
 self:vv K (.ref Cx) (.ref Cx)=some true
structure IW(Cx:Addr)(H:Hp)(a:Addr)(x y:V):Prop where
 at_:∃d,H a=some (.ext (hV a Cx (some d)))/\H d=some (.ext (iM d [("part",x),("number",y)]))
inductive nD(Cx:Addr)(vs:List V)(H:Hp)(Q:VK)(E:XK):Prop
 |mk (a:Addr) (x y:V):(vs=[.ref a,x,y])->(H a=some (.ext (cT a Cx none)))->(∀d H',H' a=some (.ext (cT a Cx (some d)))->H' d=some (.ext (iM d [("part",x),("number",y)]))->d≠a->(∀b o,H b=some o->b≠a->H' b=some o)->Q .non H')->nD Cx vs H Q E
theorem DF{K:Za}{Cx:Addr}(M:XC K Cx){vs:List V}{H:Hp}{Q:VK}{E:XK}(h:nD Cx vs H Q E):o7 K (bT Q) (start pV vs) H:=by
  obtain⟨a,x,y,rfl,ha,k⟩:=h;refine⟨_,rfl,_,rfl,_,rfl,a,Cx,none,[x,y],rfl,ha,M.cls,(by show 2<=aj;decide),?_⟩;refine⟨_,rfl,_,rfl,a,Cx,rfl,M.cls,M.p,.inl ⟨ha,fun d hd nd=>?_⟩⟩;have e1:upd (upd H d (.ext (iM d [("part",x)]))) a (.ext (cT a Cx (some d))) a=some (.ext (cT a Cx (some d))):=aa;have e2:upd (upd H d (.ext (iM d [("part",x)]))) a (.ext (cT a Cx (some d))) d=some (.ext (iM d [("part",x)])):=by rw[ai nd,aa]
  refine⟨_,rfl,_,rfl,a,Cx,rfl,M.cls,M.n,.inr ⟨d,_,e1,e2,(by show 1<1000;decide),?_⟩⟩;refine k d _ (by rw[ai nd.symm];exact e1) ?_ nd fun b o hb na=>?_
  · rw[aa]
    have:c7 ("number":Str) y [(("part":Str),x)]=[(("part":Str),x),(("number":Str),y)]:=by
      have ne:(("part":Str)==("number":Str))=false:=by decide +kernel
      simp only[c7,ne]
      first | rfl | (have ne':¬(("part":Str)=("number":Str)):=by decide +kernel
                     simp[ne'])
    rw[this]
  · rw[ai (fun z=>by rw[z,hd]at hb;cases hb),ai na,ai (fun z=>by rw[z,hd]at hb;cases hb)]
    exact hb
inductive dh(Cx:Addr)(vs:List V)(H:Hp)(Q:VK)(E:XK):Prop
 |mk (x y:V):(vs=[x,y])->(((y=.non/\Q .non H)∨(∃n:Int,y=.int n/\∀a H',IW Cx H' a x y->ae H H'->E (.ref Cx) (some a) H')))->dh Cx vs H Q E
theorem ui{Cx:Addr}{vs:List V}{H:Hp}{Q:VK}{E:XK}(h:dh Cx vs H Q E):vW Cx (nD Cx) E (bT Q) (start y1 vs) H:=by
 obtain⟨x,y,rfl,h⟩:=h;refine⟨_,rfl,_,rfl,?_⟩;rcases h with⟨rfl,k⟩|⟨n,rfl,k⟩
 ·have e:(!decide (V.non=V.non))=false:=by rw[zzr1 rfl];rfl
  rw[e];exact bu k
 ·have e:(!decide (V.int n=V.non))=true:=by rw[zzr0 (by intro z;cases z)];rfl
  rw[e];refine bE ?_;refine⟨_,rfl,_,rfl,(by show 2<=aj;decide),fun a ha=>?_⟩;refine⟨a,x,.int n,rfl,aa,fun d H' h1 h2 nd hs=>⟨rfl,some d,h1,k a _ ⟨d,aa,by rw[ai nd];exact h2⟩ fun b o hb=>?_⟩⟩;have na:b≠a:=fun z=>by rw[z,ha]at hb;cases hb
  rw[ai na];exact hs b o (by rw[ai na];exact hb) na
def eD(J0 J4 J5:Zb)(ds:List aq):Option (Str×Nat) :=
 match au J0 4 []with
 |some n=>some ("asks",n)
 |none=>match au J4 4 J0 with
  |some n=>some ("says",n)
  |none=>match au J5 150 []with
   |some n=>some ("rooms",n)
   |none=>(t6 J5 (bz J0 J4) 0 [] ds).map fun n=>("doors",n)
structure Fz(J0 J4 J5:Zb)(ds:List aq):Prop where
 a:J0.length<=100
 s:J4.length<=100
 r:J5.length<=900
 d:ds.length<=9000
 wa:∀w∈J0,w.length<=1000
 ws:∀w∈J4,w.length<=1000
 wr:∀w∈J5,w.length<=1000
inductive eF(Cx:Addr)(vs:List V)(H:Hp)(Q:VK)(E:XK):Prop
 |mk (l1 l2 l3 l4:Addr) (ts:Ze) (J0 J4 J5:Zb) (ds:List aq):(vs=[.ref l1,.ref l2,.ref l3,.ref l4])->(Lists H l1 l2 l3 l4 ts J0 J4 J5 ds)->(Fz J0 J4 J5 ds)->((eD J0 J4 J5 ds=none->∀H',ae H H'->Q .non H'))->(∀p n,eD J0 J4 J5 ds=some (p,n)->∀a H',IW Cx H' a (.str p) (.int (n:Nat))->ae H H'->E (.ref Cx) (some a) H')->eF Cx vs H Q E
theorem sV{Cx:Addr}{x:Str}{o:Option Nat}{H:Hp}{Q:VK}{E:XK}(k1:o=none->Q .non H)(k2:∀n,o=some n->∀a H',IW Cx H' a (.str x) (.int (n:Nat))->ae H H'->E (.ref Cx) (some a) H'):
  Ar (dh Cx) E [.str x,oV o] H Q E0:=by
 cases o with
 |none=>exact⟨_,_,rfl,.inl ⟨rfl,k1 rfl⟩⟩
 |some n=>exact⟨_,_,rfl,.inr ⟨n,rfl,k2 n rfl⟩⟩
theorem sK{K:Za}{Cx:Addr}{vs:List V}{H:Hp}{Q:VK}{E:XK}(h:eF Cx vs H Q E):
  vV K (Ar (dh Cx) E) (sp_first_wrong_door K) (sp_door_signs K) (sp_first_wrong_name K) (bT Q) (start xz vs) H:=by
 obtain⟨l1,l2,l3,l4,ts,J0,J4,J5,ds,rfl,L,F,k1,k2⟩:=h;have z1:=F.a;have z2:=F.s;have z3:=F.r;have z4:=F.d;refine⟨_,rfl,(by show 0<=aj;decide),fun e he=>⟨l1,e,J0,[],4,rfl,aA.of (kp L.a1 he),aA.of aa,by simp;omega,F.wa,fun H1 s1=>?_⟩⟩;have S1:=(ae.new he).trans s1;refine sV (fun w1=>?_) fun n w1 a H' xa s=>k2 "asks" n (by unfold eD;rw[w1]) a H' xa (S1.trans s);refine⟨_,rfl,_,rfl,l2,l1,J4,J0,4,rfl,aA.of (S1 _ _ L.a2),aA.of (S1 _ _ L.a1),by omega,F.ws,fun H2 s2=>?_⟩;have S2:=S1.trans s2;refine sV (fun w2=>?_) fun n w2 a H' xa s=>k2 "says" n (by unfold eD;rw[w1,w2]) a H' xa (S2.trans s);refine⟨_,rfl,(by show 0<=aj;decide),fun e he=>⟨l3,e,J5,[],150,rfl,aA.of (kp (S2 _ _ L.a3) he),aA.of aa,by simp;omega,F.wr,fun H3 s3=>?_⟩⟩;have S3:=(S2.trans (ae.new he)).trans s3;refine sV (fun w3=>?_) fun n w3 a H' xa s=>k2 "rooms" n (by unfold eD;rw[w1,w2,w3]) a H' xa (S3.trans s);refine⟨_,rfl,_,rfl,_,rfl,_,rfl,l1,l2,J0,J4,rfl,S3 _ _ L.a1,S3 _ _ L.a2,by omega,by omega,fun sl xs H4 hx s4 hsl=>?_⟩;have S4:=S3.trans s4;have L4:=L.same S4;refine⟨l4,l3,sl,ts,ds,J5,xs,bz J0 J4,rfl,L4.a4,L4.ds,L4.a3,by omega,hsl,hx,by omega,fun H5 s5=>?_⟩;refine sV (fun w4=>k1 (by unfold eD;rw[w1,w2,w3,w4];rfl) H5 (S4.trans s5)) fun n w4 a H' xa s=>k2 "doors" n (by unfold eD;rw[w1,w2,w3,w4];rfl) a H' xa ((S4.trans s5).trans s)
def pr(J0 J4 J5:Zb)(ds:List aq):List DT:=[.s (J0.map aS),.s (J4.map aS),.s (J5.map aS),.s (ds.map j1)]
theorem wZ(J0 J4 J5:Zb)(ds:List aq):DT.depths (pr J0 J4 J5 ds)<=3:=by
 have h:DT.depths (ds.map j1)<=2:=by
  induction ds with
  |nil=>exact bR _
  |cons x xs ih=>rw[bf];show max (DT.depth (j1 x)) (DT.depths _)<=2;rw[w6];omega
 unfold pr;show max (DT.depths (J0.map aS)+1) (max (DT.depths (J4.map aS)+1) (max (DT.depths (J5.map aS)+1) (max (DT.depths (ds.map j1)+1) 0)))<=3;rw[bY,bY,bY];omega
abbrev Hn:Str:="abcdefghijklmnopqrstuvwxyz"
inductive iI (vs:List V)(H:Hp)(Q:VK)(E:XK):Prop
 |mk (u:Unit):(vs=[])->(Q (.str Hn) H)->iI  vs H Q E
theorem zT{K:Za}{vs:List V}{H:Hp}{Q:VK}{E:XK}(h:iI vs H Q E):t_ K (bT Q) (start ux vs) H:=by
 obtain⟨_,rfl,k⟩:=h;exact k
theorem Ik{w:Str}:w.length=0↔w=("":Str):=by
 constructor
 ·intro h;refine lH ?_;rw[br]at h;rw[List.length_eq_zero_iff.mp h]
  rfl
 ·intro h;rw[h];decide +kernel
inductive nJ (vs:List V)(H:Hp)(Q:VK)(E:XK):Prop
 |mk (w:Str):(vs=[.str w])->(w.length<=1000)->(∀H',ae H H'->Q (.bl (eV w)) H')->nJ  vs H Q E
theorem DP{K:Za}{vs:List V}{H:Hp}{Q:VK}{E:XK}(h:nJ vs H Q E):ub K iI (bT Q) (start uz vs) H:=by
 obtain⟨w,rfl,hz,k⟩:=h;refine⟨_,rfl,.inr ⟨w,rfl,ei (bC hz),_,_,rfl,rfl,_,rfl,?_⟩⟩;refine eA (fun h1=>?_) (fun h1=>?_)
 ·have n0:(!decide (w=("":Str)))=true:=by
   have:=of_decide_eq_true h1;rw[zzr0 (fun z=>by rw[<-Ik]at z;omega)]
   rfl
  refine⟨_,_,rfl,rfl,_,rfl,?_⟩;refine eA (fun h2=>?_) (fun h2=>?_)
  ·refine⟨_,rfl,w,rfl,fun l hl=>?_⟩;refine yV (fun i vs H'=>vs=((w.cps.toList.take i).map fun c=>V.bl (decide (c∈Hn.cps.toList)))/\ae H H'/\H' l=some (.lst vs))
    ⟨rfl,ae.new hl,aa⟩ (fun i vs H' _ h=>h.2.2) ?_ ?_
   ·rintro vs H' ⟨rfl,hS,hl'⟩;refine⟨l,w.cps.toList.map fun c=>decide (c∈Hn.cps.toList),rfl,aA.of ?_,?_⟩
    ·rw[hl',dR];have:w.cps.toList.take w.cps.size=w.cps.toList:=by
      rw[rN];simp
     rw[this]
     rfl
    ·have:=k H' hS;have h2':decide (w.length<=8)=true:=zzr1 (by have:=of_decide_eq_true h2;omega);unfold eV at this;rw[n0,h2',kz,kz]at this;rw[mn];exact this
   ·rintro i vs H' c hc hi ⟨rfl,hS,hl'⟩;refine gN (t7 ?_);refine⟨_,rfl,(),rfl,c,_,rfl,rfl,hl',?_,u3 hi ⟨?_,?_,aa⟩⟩
    ·rw[am,aP];have:w.length=w.cps.toList.length:=br w;exact bC (by omega)
    ·rw[take_snoc (by rw[<-hc];simp),aQ]
     rfl
    ·intro b o e;rw[ai (ah e hl)];exact hS b o e
  ·have:=k H (ae.refl H);have h2':decide (w.length<=8)=false:=zzr0 (fun z=>h2 (zzr1 (by omega)));unfold eV at this;rw[n0,h2',kz,xO]at this;exact this
 ·have:=k H (ae.refl H);have n0:(!decide (w=("":Str)))=false:=by
   rw[zzr1 (Ik.mp (by
    have:¬((1:Int)<=(w.length:Nat)):=fun z=>h1 (zzr1 z);omega))]
   rfl
  unfold eV at this;rw[n0,xO]at this;refine⟨_,rfl,?_⟩;exact bu this
abbrev Ep:Str:=" !\"#$&'()*+,-./0123456789:;<=>?@ABCDEFGHIJKLMNOPQRSTUVWXYZ[\\]^_{|}~\n\t"
inductive wb(K:Za)(vs:List V)(H:Hp)(Q:VK)(E:XK):Prop
 |mk (l t:Addr) (names taken:Zb) (most:Nat):(vs=[.ref l,.int most,.ref t])->(H l=some (.lst (names.map V.str)))->(H t=some (.lst (taken.map V.str)))->(names.length<=900)->(most<=900)->((∀w∈names,w.length<=1000))->(∀H',ae H H'->Q (oV (au names most taken)) H')->wb K vs H Q E
theorem lb{w:Str}{ws:Zb}:decide (aS w∈ws.map aS)=decide (w∈ws):=by
 by_cases h:w∈ws
 ·rw[zzr1 h,zzr1 (rK h)]
 ·rw[zzr0 h,zzr0 fun z=>?_];obtain⟨x,hx,e⟩:=aO.mp z;rw[lN e]at hx;exact h hx
theorem HQ{K:Za}{vs:List V}{H:Hp}{Q:VK}{E:XK}(h:wb K vs H Q E):ni K nJ (bT Q) (start oq vs) H:=by
 obtain⟨l,t,names,taken,most,rfl,hl,ht,hz,hm,hw,k⟩:=h;refine⟨_,rfl,(by show 0<=aj;decide),fun q hq=>?_⟩;have S1:ae H (upd H q (.lst [])):=ae.new hq;refine⟨.s (names.map aS),.s [],(by unfold kj;exact⟨l,_,rfl,aA.of (S1 _ _ hl),fS _⟩),(by unfold kj;exact⟨q,_,rfl,aA.of aa,by unfold DIns;rfl⟩),?_,?_,_,rfl,?_⟩
 ·show DT.depths _+1<=8;rw[bY];decide
 ·decide
 generalize upd H q (.lst [])=H1 at S1 ⊢;by_cases h0:names=[]
 ·subst h0;have e:decide (DT.s (([]:Zb).map aS)=DT.s [])=true:=zzr1 rfl;rw[e];exact bE (k H1 S1)
 rw[zzr0 (fun z=>h0 (by
  injection z with z;exact rE.mp z))]
 refine bu ?_;have hk:∀H',ae H H'->Q (oV (va most 0 taken names)) H':=by
  unfold au at k;rw[if_neg h0]at k;exact k
 refine⟨_,rfl,_,rfl,_,rfl,l,_,rfl,aA.of (S1 _ _ hl),fun p2 hp2=>?_⟩;have S2:ae H (upd H1 p2 (.lst (df (names.map V.str) none (some (most:Int))))):=S1.trans (ae.new hp2);have e2:upd H1 p2 (.lst (df (names.map V.str) none (some (most:Int)))) p2=some (.lst ((names.take most).map V.str)):=by rw[aa,rp]
 generalize upd H1 p2 (.lst (df (names.map V.str) none (some (most:Int))))=H2 at S2 e2 ⊢;refine⟨p2,rfl,⟨_,aA.of e2⟩,?_⟩;refine eW (xs:=(names.take most).map V.str) (fun i σ H'=>∃x y,σ=[some (.ref l),some (.int most),some (.ref t),x,y]/\ae H2 H'/\va most i (taken++names.take i) (names.drop i)=va most 0 taken names)
  ⟨_,_,rfl,ae.refl _,by rw[List.take_zero,fD,mq]⟩ (fun i σ H' _ ⟨_,_,_,hS,_⟩=>aA.of (hS _ _ e2)) ?_ ?_
 ·rintro i x σ H' q hi ⟨x4,x5,rfl,hS,hf⟩ hq;obtain⟨w,hw',rfl⟩:=dE hi;have him:i<most/\names[i]?=some w:=by
   rw[List.getElem?_take]at hw';split at hw'
   ·exact⟨by assumption,hw'⟩
   ·cases hw'
  have hil:i<names.length:=(db.mp him.2).1;have ed:names.drop i=w::names.drop (i+1):=by
   rw[jJ hil];congr 1;exact(db.mp him.2).2
  rw[ed]at hf;have S3:ae H2 (upd H' q (.tup [.int i,.str w])):=hS.trans (ae.new hq);have hww:w.length<=1000:=hw w (cu him.2);refine⟨q,_,rfl,b_.of aa,rfl,_,_,rfl,_,_,rfl,rfl,?_⟩;generalize upd H' q (.tup [.int i,.str w])=H3 at S3 ⊢;have bad:∀H',ae H3 H'->(i=most∨w∈taken++names.take i∨eV w=false)->Q (.int i) H':=fun H' s hb=>by
   have:=hk H' ((S2.trans S3).trans s);rw[<-hf]at this;unfold va at this;rw[if_pos hb]at this;exact this
  refine⟨_,rfl,w,rfl,hww,fun H4 s4=>⟨_,rfl,?_⟩⟩;cases nb:eV w with
  |false=>exact bE (bE ⟨_,rfl,bad H4 s4 (.inr (.inr nb))⟩)
  |true =>
   refine bu ?_;have S4:=S3.trans s4;refine⟨_,rfl,_,rfl,_,rfl,_,rfl,l,_,rfl,aA.of (S4 _ _ (S2 _ _ hl)),fun p5 hp5=>?_⟩;have e5:upd H4 p5 (.lst (df (names.map V.str) none (some (i:Int)))) p5=some (.lst ((names.take i).map V.str)):=by rw[aa,rp]
   have s5:ae H4 (upd H4 p5 (.lst (df (names.map V.str) none (some (i:Int))))):=ae.new hp5;generalize upd H4 p5 (.lst (df (names.map V.str) none (some (i:Int))))=H5 at e5 s5 ⊢;refine⟨aS w,(names.take i).map aS,p5,_,i_ w,rfl,.inl (aA.of e5),fS _,bR _,by rw[bY];decide,_,rfl,?_⟩;rw[if_neg (by decide),lb];have s35:=s4.trans s5;by_cases c1:w∈names.take i
   ·rw[zzr1 c1];exact bE (bE ⟨_,rfl,bad H5 s35 (.inr (.inl (dw _ c1)))⟩)
   rw[zzr0 c1];refine bu ?_;refine⟨_,rfl,_,rfl,aS w,taken.map aS,t,_,i_ w,rfl,.inl (aA.of ((S4.trans s5) _ _ (S2 _ _ ht))),fS _,bR _,by rw[bY];decide,_,rfl,?_⟩;rw[if_neg (by decide),lb];by_cases c2:w∈taken
   ·rw[zzr1 c2];exact bE ⟨_,rfl,bad H5 s35 (.inr (.inl (cJ _ c2)))⟩
   rw[zzr0 c2];refine bu ⟨_,_,rfl,S4.trans s5,?_⟩;rw[<-hf];have nb':¬(i=most∨w∈taken++names.take i∨eV w=false):=by
    rintro(z|z|z)
    ·omega
    ·exact(bJ.mp z).elim c2 c1
    ·rw[nb]at z;cases z
   conv=>rhs;unfold va
   rw[if_neg nb',take_snoc him.2,dA]
 ·rintro σ H' ⟨x,y,rfl,hS,hf⟩;rw[am,aP]at hf;have fin:∀o,va most 0 taken names=o->Q (oV o) H':=fun o e=>by
   have:=hk H' (S2.trans hS);rw[e]at this;exact this
  refine⟨_,rfl,.inl ⟨l,_,rfl,.inl (aA.of ((S2.trans hS) _ _ hl)),_,rfl,_,_,rfl,rfl,_,rfl,?_⟩⟩;rw[am];by_cases c:most<names.length
  ·rw[zzr1 (by omega)];refine bE ⟨_,rfl,fin (some most) ?_⟩;have em:min most names.length=most:=by omega
   rw[em]at hf;rw[<-hf,jJ c];unfold va;rw[if_pos (.inl rfl)]
  ·rw[zzr0 (by omega)];refine bu ?_;refine fin none ?_;have em:min most names.length=names.length:=by omega
   rw[em,kA]at hf;rw[<-hf]
   rfl
theorem Lists.dr{K:Za}{H:Hp}{r l1 l2 l3 l4:Addr}{ts:Ze}{J0 J4 J5:Zb}{ds:List aq}(L:Lists H l1 l2 l3 l4 ts J0 J4 J5 ds)(h:H r=some (.lst [.ref l1,.ref l2,.ref l3,.ref l4])):DR K H (.s (pr J0 J4 J5 ds)) (.ref r):=by
 unfold DR;refine⟨r,_,rfl,h,?_⟩;unfold pr;unfold DRs;refine⟨_,_,rfl,by unfold DR;exact⟨l1,_,rfl,L.a1,iL _⟩,?_⟩;unfold DRs;refine⟨_,_,rfl,by unfold DR;exact⟨l2,_,rfl,L.a2,iL _⟩,?_⟩;unfold DRs;refine⟨_,_,rfl,by unfold DR;exact⟨l3,_,rfl,L.a3,iL _⟩,?_⟩;unfold DRs;refine⟨_,_,rfl,by unfold DR;exact⟨l4,_,rfl,L.a4,lT L.ds⟩,?_⟩;unfold DRs
 rfl
theorem HI:∀ws:List Str,DT.sms (ws.map aS)=true
 |[]=>rfl
 |w::ws=>by
  rw[bf];show(DT.sm (aS w) && DT.sms (ws.map aS))=true;rw[HI ws];rfl
theorem smS{ws:Zb}(h:ws.length<=1000000):DT.sm (.s (ws.map aS))=true:=by
 show(decide ((ws.map aS).length<=1000000) && DT.sms (ws.map aS))=true;rw[HI,am,zzr1 h];rfl
theorem smG{ws:Zb}(h:ws.length<=1000000):DT.sm (.t (ws.map aS))=true:=by
 show(decide ((ws.map aS).length<=1000000) && DT.sms (ws.map aS))=true;rw[HI,am,zzr1 h];rfl
theorem Ji:∀{ds:List aq},(∀d∈ds,d.sg.length<=1000000)->DT.sms (ds.map j1)=true
 |[],_=>rfl
 |d::ds,h=>by
  rw[bf];show(DT.sm (j1 d) && DT.sms (ds.map j1))=true;rw[Ji fun x hx=>h x (cj _ hx)];have:DT.sm (j1 d)=true:=by
   show(decide (3<=1000000) && (DT.sm (aS d.a) && (DT.sm (.t (d.sg.map aS)) && (DT.sm (aS d.b) && true))))=true;rw[smG (h d cp)];rfl
  rw[this];rfl
theorem DD{J0 J4 J5:Zb}{ds:List aq}(F:Fz J0 J4 J5 ds)(g:∀d∈ds,d.sg.length<=1000000):DT.sm (.s (pr J0 J4 J5 ds))=true:=by
 have h1:=F.a;have h2:=F.s;have h3:=F.r;have h4:=F.d;show(decide (4<=1000000) && (DT.sm (.s (J0.map aS)) && (DT.sm (.s (J4.map aS)) && (DT.sm (.s (J5.map aS)) && (DT.sm (.s (ds.map j1)) && true)))))=true;rw[smS (by omega),smS (by omega),smS (by omega)];have:DT.sm (.s (ds.map j1))=true:=by
  show(decide ((ds.map j1).length<=1000000) && DT.sms (ds.map j1))=true;rw[Ji g,am,zzr1 (by omega)];rfl
 rw[this];rfl
theorem ED{w:Str}(h:eV w=true):j4 w:=by
 unfold eV at h;rw[iw,iw]at h;obtain⟨h1,h2,h3⟩:=h;refine⟨?_,of_decide_eq_true h2,fun c hc=>?_⟩
 ·rcases Nat.eq_zero_or_pos w.length with z|z
  ·rw[zzr1 (Ik.mp z)]at h1;cases h1
  ·exact z
 ·have:=of_decide_eq_true (List.all_eq_true.mp h3 c hc);obtain⟨i,hi,e⟩:=List.mem_iff_getElem.mp this;have hl:("abcdefghijklmnopqrstuvwxyz":Str).cps.toList.length=26:=by decide +kernel
  have g:=xx i (by omega);rw[fh hi,e]at g;have:=dX g;rw[this];exact⟨by omega,by omega⟩
theorem BF:∀{ns ahead:Zb}{most i:Nat},va most i ahead ns=none->i<=most->(i+ns.length<=most)/\(∀w∈ns,w∉ahead/\eV w=true)/\ns.Nodup
 |[],ahead,most,i,_,hi=>⟨hi,(fun _ h=>nomatch h),ix⟩
 |n::ns,ahead,most,i,h,hi=>by
  unfold va at h;split at h
  ·cases h
  ·rename_i c;have c1:i≠most:=fun z=>c (.inl z);have c2:n∉ahead:=fun z=>c (.inr (.inl z));have c3:eV n=true:=by
    cases q:eV n with
    |true=>rfl
    |false=>exact absurd (.inr (.inr q)) c
   obtain⟨g1,g2,g3⟩:=BF h (by omega);refine⟨by rw[cw];omega,fun w hw=>?_,?_⟩
   ·rcases bw.mp hw with e|e
    ·rw[e];exact⟨c2,c3⟩
    ·exact⟨fun z=>(g2 w e).1 (cJ _ z),(g2 w e).2⟩
   ·refine ji.mpr ⟨fun z=>(g2 n z).1 (by simp),g3⟩
theorem eS{names taken:Zb}{most:Nat}(h:au names most taken=none):names≠[]/\names.length<=most/\eJ names/\∀w∈names,w∉taken:=by
 unfold au at h;split at h
 ·cases h
 ·rename_i n0;obtain⟨g1,g2,g3⟩:=BF h (bR _);exact⟨n0,by omega,⟨g3,fun w hw=>ED (g2 w hw).2⟩,fun w hw=>(g2 w hw).1⟩
abbrev pnD(p:Str)(n:Nat):DT:=.t [aS p,.k (.inl (n:Int))]
theorem Hh{K:Za}{H:Hp}{t:Addr}{p:Str}{n:Nat}(h:H t=some (.tup [.str p,.int (n:Nat)])):DR K H (pnD p n) (.ref t):=by
 unfold pnD DR;refine⟨t,_,rfl,b_.of h,?_⟩;unfold DRs;refine⟨_,_,rfl,by unfold aS DR;rfl,?_⟩;unfold DRs;refine⟨_,_,rfl,by unfold DR;rfl,?_⟩;unfold DRs
 rfl
def gF(J5:Zb)(P:Str->Prop)(o:Option Nat):Prop:=(o=none/\∀r∈J5,¬P r)∨∃n r,o=some n/\J5[n]?=some r/\P r/\∀j x,j<n->J5[j]?=some x->¬P x
theorem gF.uniq{J5:Zb}{P:Str->Prop}{o o':Option Nat}(h:gF J5 P o)(h':gF J5 P o'):o=o':=by
 rcases h with⟨rfl,h⟩|⟨n,r,rfl,e,p,b⟩<;>rcases h' with⟨rfl,h'⟩|⟨n',r',rfl,e',p',b'⟩
 ·rfl
 ·exact absurd p' (h r' (cu e'))
 ·exact absurd p (h' r (cu e))
 ·have:n=n':=by
   rcases Nat.lt_trichotomy n n' with l|l|l
   ·exact absurd p (b' n r l e)
   ·exact l
   ·exact absurd p' (b n' r' l e')
  rw[this]
inductive cK (vs:List V)(H:Hp)(Q:VK)(E:XK):Prop
 |mk (l3 d:Addr) (J5:Zb) (ps:List (Str×Addr)) (P:Str->Prop):(vs=[.ref l3,.ref d])->(H l3=some (.lst (J5.map V.str)))->(H d=some (.dK (dP Sum.inr ps)))->(ps.map (·.1)=J5)->(J5.Nodup)->((∀x∈ps,∃L,H x.2=some (.dK (bH L))/\(x.1∈L↔P x.1)))->(∀o H',gF J5 P o->ae H H'->Q (oV o) H')->cK  vs H Q E
theorem l7{K:Za}{vs:List V}{H:Hp}{Q:VK}{E:XK}(h:cK vs H Q E):nj K (bT Q) (start ou vs) H:=by
 obtain⟨l3,d,J5,ps,P,rfl,h3,hd,hps,nod,hL,k⟩:=h;refine⟨_,rfl,l3,rfl,⟨_,aA.of h3⟩,?_⟩;refine eW (xs:=J5.map V.str) (fun i σ H'=>∃x y,σ=[some (.ref l3),some (.ref d),x,y]/\ae H H'/\∀j x,j<i->J5[j]?=some x->¬P x) ⟨_,_,rfl,ae.refl H,fun _ _ z=>absurd z (Nat.not_lt_zero _)⟩ (fun i σ H' _ ⟨_,_,_,S,_⟩=>aA.of (S _ _ h3)) ?_ ?_
 ·rintro i x σ H' t hi ⟨x2,x3,rfl,S,nb⟩ ht;obtain⟨w,hw,rfl⟩:=dE hi;refine⟨t,_,rfl,b_.of aa,rfl,_,_,rfl,_,_,rfl,rfl,?_⟩;have S2:ae H (upd H' t (.tup [.int i,.str w])):=S.trans (ae.new ht);generalize upd H' t (.tup [.int i,.str w])=H2 at S2 ⊢;have hmem:w∈ps.map (·.1):=by rw[hps];exact cu hw
  obtain⟨⟨r,a⟩,hra,er⟩:=aO.mp hmem;obtain rfl:r=w:=er;obtain⟨L,hLa,hn⟩:=hL _ hra;refine⟨_,rfl,_,rfl,_,rfl,d,.ref a,rfl,.inl ⟨_,.inr r,.inl (S2 _ _ hd),rfl,(fQ jX (by rw[hps];exact nod) hra).symm⟩,a,_,rfl,.inl ⟨_,.inr r,.inl (S2 _ _ hLa),rfl,rfl⟩,_,rfl,?_⟩;rw[jC];by_cases c:r∈L
  ·rw[zzr1 c];exact bE ⟨_,rfl,k (some i) H2 (.inr ⟨i,r,rfl,hw,hn.mp c,nb⟩) S2⟩
  ·rw[zzr0 c];refine bu ⟨_,_,rfl,S2,fun j x l e=>?_⟩;rcases Nat.lt_or_ge j i with z|z
   ·exact nb j x z e
   ·have:j=i:=by omega
    rw[this,hw]at e;cases e;exact fun z=>c (hn.mpr z)
 ·rintro σ H' ⟨x,y,rfl,S,nb⟩;refine k none H' (.inl ⟨rfl,fun r hr=>?_⟩) S;obtain⟨j,hj,e⟩:=List.mem_iff_getElem.mp hr;exact nb j r (by rw[am];exact hj) (by rw[fh hj,e])
structure fW(J0 J4 J5:Zb)(ds:List aq):Prop where
 okA:eJ J0
 okS:eJ J4
 apart:∀w∈J4,w∉J0
 okR:eJ J5
 asks0:J0≠[]
 says0:J4≠[]
 rooms0:J5≠[]
 asks4:J0.length<=4
 says4:J4.length<=4
 rooms26:J5.length<=150
 nodup:ds.Nodup
 good:∀d∈ds,Fv J0 J4 J5 d
 few:ds.length<=2000
theorem fW.ok{J0 J4 J5:Zb}{ds:List aq}(m:fW J0 J4 J5 ds)(z:ds.length<=1000)(h:∀r∈J5,¬Reach ds r r):cg J0 J4 J5 ds :=
 ⟨m.okA,m.okS,m.apart,m.okR,m.asks0,m.says0,m.rooms0,m.asks4,m.says4,m.rooms26,m.nodup,m.good,z,fun r z=>by
  have:∀{b:Str},Reach ds r b->r∈J5:=fun{b} hb=>by
   induction hb with
   |one hd=>exact(m.good _ hd).a
   |step _ _ ih=>exact ih
  exact h r (this z) z⟩
theorem fW.few'{J0 J4 J5:Zb}{ds:List aq}(m:fW J0 J4 J5 ds):Fz J0 J4 J5 ds :=
 ⟨by have:=m.asks4;omega,by have:=m.says4;omega,by have:=m.rooms26;omega,by have:=m.few;omega,pA m.okA,pA m.okS,pA m.okR⟩
theorem fW.sg0{J0 J4 J5:Zb}{ds:List aq}(m:fW J0 J4 J5 ds){r:Str}:∀d∈cD ds r,d.sg≠[]:=by
 intro d hd;have:=m.good d (ir.mp hd).1;rcases this.sg with⟨w,_,e⟩|⟨w,_,e⟩|e<;>rw[e]<;>exact List.cons_ne_nil _ _
theorem fW.signs{J0 J4 J5:Zb}{ds:List aq}(m:fW J0 J4 J5 ds):∀d∈ds,d.a∈J5/\d.sg∈bz J0 J4/\d.b∈J5:=by
 intro d hd;have g:=m.good d hd;refine⟨g.a,?_,g.b⟩;unfold bz;rcases g.sg with⟨w,hw,e⟩|⟨w,hw,e⟩|e
 ·rw[e];exact cJ _ (cJ _ (aO.mpr ⟨w,hw,rfl⟩))
 ·rw[e];exact cJ _ (dw _ (aO.mpr ⟨w,hw,rfl⟩))
 ·rw[e];exact dw _ (by simp[aG])
theorem jM{J0 J4 J5:Zb}{ds:List aq}(m:fW J0 J4 J5 ds):eD J0 J4 J5 ds=none:=by
 have w1:au J0 4 []=none:=hJ m.asks0 m.asks4 m.okA.1 m.okA.2;have w2:au J4 4 J0=none:=hJ m.says0 m.says4 (by
  rw[fG];exact⟨m.okA.1,m.okS.1,fun a ha b hb e=>m.apart b hb (e▸ha)⟩) m.okS.2
 have w3:au J5 150 []=none:=hJ m.rooms0 m.rooms26 m.okR.1 m.okR.2;have w4:t6 J5 (bz J0 J4) 0 [] ds=none:=yJ ds [] 0 (by have:=m.few;omega) m.nodup m.signs;unfold eD;rw[w1,w2,w3,w4]
 rfl
structure y8(C:Addr)(H:Hp)(x:Addr)(J0 J4 J5:Zb)(ds:List aq):Prop where
 at_:∃(dx:Addr) (fs:List (Str×V)) (o1 o2 o3 o4 lv qu sg sl:Addr) (ts:Ze) (lps:List (Str×Addr)) (gps:List ((Str×List Str)×Addr)) (sps:List (Str×Addr)),
  H x=some (.ins C dx fs)/\lk "is_quiet" fs=none/\lk "goals" fs=none/\lk "led_from" fs=none/\lk "rooms" fs=none /\
  lk "own_asks" fs=some (.ref o1)/\lk "own_says" fs=some (.ref o2)/\lk "own_rooms" fs=some (.ref o3)/\lk "own_doors" fs=some (.ref o4) /\
  lk "leaving" fs=some (.ref lv)/\lk "quiet" fs=some (.ref qu)/\lk "sign_goals" fs=some (.ref sg)/\lk "still_led" fs=some (.ref sl) /\
  Lists H o1 o2 o3 o4 ts J0 J4 J5 ds /\
  lps.map (·.1)=J5/\H lv=some (.dK (dP Sum.inr lps))/\(∀x∈lps,∃us,H x.2=some (.lst (us.map V.ref))/\dg H us (cD ds x.1)) /\
  H qu=some (.dK (bH (J5.filter (kR ds))))/\ij H sg gps ds /\
  sps.map (·.1)=J5/\H sl=some (.dK (dP Sum.inr sps))/\(∀x∈sps,∃L,H x.2=some (.dK (bH L))/\L.Nodup/\∀w,w∈L↔Reach ds x.1 w)
 more:∃(dx:Addr) (fs:List (Str×V)),H x=some (.ins C dx fs)/\lk "asks" fs=none/\lk "says" fs=none/\lk "doors" fs=none/\lk "doors_from" fs=none
theorem y8.ok{C:Addr}{H:Hp}{x:Addr}{J0 J4 J5:Zb}{ds:List aq}(b:y8 C H x J0 J4 J5 ds)(m:cg J0 J4 J5 ds):fx C H x J0 J4 J5 ds:=⟨b.at_,m,b.more⟩
inductive ye(C Cx:Addr)(vs:List V)(H:Hp)(Q:VK)(E:XK):Prop
 |mk (x dx l1 l2 l3 l4:Addr) (ts:Ze) (J0 J4 J5:Zb) (ds:List aq):(vs=[.ref x,.ref l1,.ref l2,.ref l3,.ref l4])->(H x=some (.ins C dx []))->(Lists H l1 l2 l3 l4 ts J0 J4 J5 ds)->(fW J0 J4 J5 ds)->((∀H',gF J5 (fun r=>Reach ds r r) none->y8 C H' x J0 J4 J5 ds->dO x H H'->Q .non H'))->(∀n a H',gF J5 (fun r=>Reach ds r r) (some n)->IW Cx H' a (.str "still") (.int (n:Nat))->dO x H H'->E (.ref Cx) (some a) H')->ye C Cx vs H Q E
theorem DU{K:Za}{C Cx:Addr}(M:MC K C){vs:List V}{H:Hp}{Q:VK}{E:XK}(h:ye C Cx vs H Q E):
  iA K (Ar (dh Cx) E) cK sG kM (sp_as_keys K) sp_has_asks_alone sp_doors_by_start (Ar (eF Cx) E) (bT Q) (start iO vs) H:=by
 obtain⟨x,dx,l1,l2,l3,l4,ts,J0,J4,J5,ds,rfl,hx,L,m,k,kx⟩:=h;have z3:=m.rooms26;have z4:=m.few;refine⟨_,rfl,_,rfl,_,rfl,_,rfl,l1,l2,l3,l4,ts,J0,J4,J5,ds,rfl,L,m.few',fun _ H1 S1=>?_,fun p n e=>by rw[jM m]at e;cases e⟩;have hx1:=S1 _ _ hx;have L1:=L.same S1;have E1:dO x H H1:=ae.exB S1;refine⟨_,rfl,.inl ⟨l1,_,rfl,.inl (aA.of L1.a1),fun o1 ho1=>⟨_,rfl,x,C,dx,_,rfl,kp hx1 ho1,M.cls,M.a1,(by show 0<1000;decide),?_⟩⟩⟩;obtain⟨H2,e2,hx2,F2⟩:=yL "own_asks" (.ref o1) (kp (x:=.lst (J0.map V.str)) hx1 ho1);rw[<-e2];have n1:o1≠x:=(ah hx1 ho1).symm;have f1:=F2 _ _ aa n1;have E2:dO x H1 H2:=(dO.new ho1).trans F2;have L2':=L1.exI hx1 E2;have len2:(c7 ("own_asks":Str) (.ref o1) []).length<=1:=gM _ _ _;clear e2 F2;refine⟨_,rfl,.inl ⟨l2,_,rfl,.inl (aA.of L2'.a2),fun o2 ho2=>⟨_,rfl,x,C,dx,_,rfl,kp hx2 ho2,M.cls,M.a2,by omega,?_⟩⟩⟩;obtain⟨H3,e3,hx3,F3⟩:=yL "own_says" (.ref o2) (kp (x:=.lst (J4.map V.str)) hx2 ho2);rw[<-e3];have n2:o2≠x:=(ah hx2 ho2).symm;have f2:=F3 _ _ aa n2;have E3:dO x H2 H3:=(dO.new ho2).trans F3;have L3:=L2'.exI hx2 E3;have len3:=gM ("own_says":Str) (.ref o2) (c7 ("own_asks":Str) (.ref o1) []);clear e3 F3;refine⟨_,rfl,.inl ⟨l3,_,rfl,.inl (aA.of L3.a3),fun o3 ho3=>⟨_,rfl,x,C,dx,_,rfl,kp hx3 ho3,M.cls,M.a3,by omega,?_⟩⟩⟩;obtain⟨H4,e4,hx4,F4⟩:=yL "own_rooms" (.ref o3) (kp (x:=.lst (J5.map V.str)) hx3 ho3);rw[<-e4];have n3:o3≠x:=(ah hx3 ho3).symm;have f3:=F4 _ _ aa n3;have E4:dO x H3 H4:=(dO.new ho3).trans F4;have L4:=L3.exI hx3 E4;have len4:=gM ("own_rooms":Str) (.ref o3) (c7 ("own_says":Str) (.ref o2) (c7 ("own_asks":Str) (.ref o1) []));clear e4 F4;refine⟨_,rfl,.inl ⟨l4,_,rfl,.inl (aA.of L4.a4),fun o4 ho4=>⟨_,rfl,x,C,dx,_,rfl,kp hx4 ho4,M.cls,M.a4,by omega,?_⟩⟩⟩;obtain⟨H5,e5,hx5,F5⟩:=yL "own_doors" (.ref o4) (kp (x:=.lst (ts.map V.ref)) hx4 ho4);rw[<-e5];have n4:o4≠x:=(ah hx4 ho4).symm;have f4:=F5 _ _ aa n4;have E5:dO x H4 H5:=(dO.new ho4).trans F5;have L5:=L4.exI hx4 E5;generalize hfs4:c7 ("own_doors":Str) (.ref o4) (c7 ("own_rooms":Str) (.ref o3) (c7 ("own_says":Str) (.ref o2) (c7 ("own_asks":Str) (.ref o1) [])))=fs4 at hx5;have len5:fs4.length<=4:=by
  rw[<-hfs4];have:=gM ("own_doors":Str) (.ref o4) (c7 ("own_rooms":Str) (.ref o3) (c7 ("own_says":Str) (.ref o2) (c7 ("own_asks":Str) (.ref o1) [])));omega
 clear e5 F5;refine⟨_,rfl,_,rfl,l3,l4,ts,J5,ds,rfl,L5.a3,L5.a4,L5.ds,m.okR.1,by omega,by omega,fun d hd=>(m.good d hd).a,fun lv lps H6' hlps flv' hlv' S6=>⟨_,rfl,x,C,dx,fs4,rfl,S6 _ _ hx5,M.cls,M.a5,by omega,?_⟩⟩;obtain⟨H6,e6,hx6,F6⟩:=yL "leaving" (.ref lv) (S6 _ _ hx5);rw[<-e6];have E6:dO x H5 H6:=(ae.exB S6).trans F6;have L6:=L5.exI hx5 E6;have flv:=F6 _ _ flv' (EC (S6 _ _ hx5) flv');have hlv:∀y∈lps,∃us,H6 y.2=some (.lst (us.map V.ref))/\dg H6 us (cD ds y.1):=fun y hy=>by
  obtain⟨us,g1,g2⟩:=hlv' y hy;exact⟨us,F6 _ _ g1 (dO.neI (S6 _ _ hx5) g1),g2.kt (F6.ktI (S6 _ _ hx5))⟩
 have ndl:(lps.map (·.1)).Nodup:=by rw[hlps];exact m.okR.1
 have len6:=gM ("leaving":Str) (.ref lv) fs4;have lk5:lk "leaving" (c7 ("leaving":Str) (.ref lv) fs4)=some (.ref lv):=by
  show iW _ _=_;rw[eG,if_pos rfl]
 clear e6 F6 flv' hlv';refine⟨_,rfl,l3,rfl,⟨_,aA.of L6.a3⟩,fun f hf=>?_⟩;refine dL (xs:=J5.map V.str) (fun i vs H'=>vs=((J5.take i).filter (kR ds)).map V.str/\ae H6 H'/\H' f=some (.lst vs)) ⟨rfl,ae.new hf,aa⟩ (fun i vs H' _ ⟨_,S,h'⟩=>⟨h',aA.of (S _ _ L6.a3)⟩) ?_ ?_;rotate_left
 ·rintro i vs H' x' hx' hi ⟨rfl,S,f'⟩;obtain⟨r,hr,rfl⟩:=dE hx';obtain⟨⟨r',a⟩,hra,er⟩:=aO.mp (show r∈lps.map (·.1) by rw[hlps];exact cu hr);obtain rfl:r'=r:=er;obtain⟨us,hus,hdo⟩:=hlv _ hra;refine gN ?_;refine⟨_,rfl,x,C,dx,_,.ref lv,rfl,S _ _ hx6,M.cls,M.a5,lk5,_,rfl,lv,.ref a,rfl,.inl ⟨_,.inr r',.inl (S _ _ flv),rfl,(fQ jX ndl hra).symm⟩,a,us,cD ds r',rfl,S _ _ hus,hdo.kt (ae.kt S),bj (Ag _ _) (by omega),m.sg0,fun H'' S''=>⟨_,rfl,?_⟩⟩;have hlen:(((J5.take i).filter (kR ds)).map V.str).length<aj:=by
   rw[am];refine bC (bj (jG _ _) ?_);rw[aP];omega
  refine eA (fun hq=>?_) (fun hq=>?_)
  ·refine⟨_,rfl,S'' _ _ f',hlen,u3 hi ⟨?_,?_,aa⟩⟩
   ·rw[i8 hr,if_pos (show kR ds r'=true from hq),aQ];rfl
   ·intro b o q;rw[ai (ah q hf)];exact S'' _ _ (S _ _ q)
  ·refine u3 hi ⟨?_,S.trans S'',?_⟩
   ·rw[i8 hr,if_neg (show ¬kR ds r'=true from hq),fD]
   ·exact S'' _ _ f'
 rintro vs H7' ⟨rfl,S7,f7⟩;rw[am,cZ]at f7;refine pQ (ws:=J5.filter (kR ds)) (aA.of f7) (bj (jG _ _) (by omega)) fun qu hqu=>⟨_,rfl,x,C,dx,_,rfl,kp (S7 _ _ hx6) hqu,M.cls,M.a6,by omega,?_⟩;obtain⟨H7,e7,hx7,F7⟩:=yL "quiet" (.ref qu) (kp (x:=.dK (bH (J5.filter (kR ds)))) (S7 _ _ hx6) hqu);rw[<-e7];have n7:qu≠x:=(ah (S7 _ _ hx6) hqu).symm;have fqu:=F7 _ _ aa n7;have E7:dO x H6 H7:=((ae.exB S7).trans (dO.new hqu)).trans F7;have L7:=L6.exI hx6 E7;have len7:=gM ("quiet":Str) (.ref qu) (c7 ("leaving":Str) (.ref lv) fs4);clear e7 F7;refine⟨_,rfl,l4,ts,ds,rfl,L7.a4,L7.ds,by omega,fun sg gps H8' G' S8=>⟨_,rfl,x,C,dx,_,rfl,S8 _ _ hx7,M.cls,M.a7,by omega,?_⟩⟩;obtain⟨H8,e8,hx8,F8⟩:=yL "sign_goals" (.ref sg) (S8 _ _ hx7);rw[<-e8];have E8:dO x H7 H8:=(ae.exB S8).trans F8;have L8:=L7.exI hx7 E8;have G8:ij H8 sg gps ds:=⟨G'.nd,F8 _ _ G'.g (Hb (S8 _ _ hx7) G'.g),fun y hy=>F8 _ _ (G'.ls y hy) (dO.neI (S8 _ _ hx7) (G'.ls y hy)),G'.all⟩;have len8:=gM ("sign_goals":Str) (.ref sg) (c7 ("quiet":Str) (.ref qu) (c7 ("leaving":Str) (.ref lv) fs4));have lk7:lk "sign_goals" (c7 ("sign_goals":Str) (.ref sg) (c7 ("quiet":Str) (.ref qu) (c7 ("leaving":Str) (.ref lv) fs4)))=some (.ref sg):=by
  show iW _ _=_;rw[eG,if_pos rfl]
 clear e8 F8 G';refine⟨_,rfl,l3,rfl,⟨_,aA.of L8.a3⟩,fun f2' hf2=>?_⟩;refine dL (xs:=J5.map V.str) (fun i vs H'=>∃(us:Ze) (pl:List (Str×Addr)),vs=us.map V.ref/\Paired (fun t (p:Str×Addr)=>H' t=some (.tup [.str p.1,.ref p.2])) us pl/\pl.map (·.1)=J5.take i/\(∀p∈pl,∃L,H' p.2=some (.dK (bH L))/\L.Nodup/\∀w,w∈L↔Reach ds p.1 w)/\ae H8 H'/\H' f2'=some (.lst vs))
  ⟨[],[],rfl,.nil,rfl,by simp,ae.new hf2,aa⟩ (fun i vs H' _ ⟨_,_,_,_,_,_,S,h'⟩=>⟨h',aA.of (S _ _ L8.a3)⟩) ?_ ?_
 rotate_left
 ·rintro i vs H' x' hx' hi ⟨us,pl,rfl,hpa,hpl,hle,S,f'⟩;obtain⟨r,hr,rfl⟩:=dE hx';have hilen:us.length<=150:=by
   rw[Paired.length hpa,<-am (f:=(·.1)) (as:=pl),hpl,aP];omega
  refine gN (t7 ?_);refine⟨_,rfl,_,rfl,x,C,dx,_,.ref sg,rfl,S _ _ hx8,M.cls,M.a7,lk7,_,rfl,sg,r,gps,ds,J5,rfl,G8.same S,fun d hd=>(m.good d hd).b,by omega,fun ld Lr H'' hld nd hLr hfr S''=>⟨(by show 2<=aj;decide),fun t ht=>⟨?_,?_,u3 hi ⟨us++[t],pl++[(r,ld)],?_,?_,?_,?_,?_,aa⟩⟩⟩⟩
  ·exact kp (S'' _ _ f') ht
  ·rw[am];exact bC (by omega)
  ·rw[aQ];rfl
  ·have KT:AG (upd H'' t (.tup [.str r,.ref ld])) (upd (upd H'' t (.tup [.str r,.ref ld])) f2' (.lst (us.map V.ref++[.ref t]))):=jl (kp (S'' _ _ f') ht);exact Paired.app (Paired.mapP hpa fun t' p' e=>KT _ _ (kp (S'' _ _ e) ht)) (.cons (KT _ _ aa) .nil)
  ·rw[aQ,hpl,take_snoc hr];rfl
  ·have ned:∀{b:Addr}{kvs:List (d9×V)},upd H'' t (.tup [.str r,.ref ld]) b=some (.dK kvs)->b≠f2':=fun hb z=>by rw[z,kp (S'' _ _ f') ht]at hb;cases hb
   intro p hp;rcases bJ.mp hp with hp|hp
   ·obtain⟨L0,g1,g2⟩:=hle p hp;refine⟨L0,?_,g2⟩;have:=kp (x:=.tup [.str r,.ref ld]) (S'' _ _ g1) ht;rw[ai (ned this)];exact this
   ·have:p=(r,ld):=by simpa using hp
    subst this;refine⟨Lr,?_,nd,hLr⟩;have:=kp (x:=.tup [.str r,.ref ld]) hld ht;rw[ai (ned this)];exact this
  ·intro b o q;rw[ai (ah q hf2)];exact kp (S'' _ _ (S _ _ q)) ht
 rintro vs H9' ⟨us,sps,rfl,hpa,hsps,hled,S9,f9⟩;rw[am,cZ]at hsps;have nds:(sps.map (·.1)).Nodup:=by rw[hsps];exact m.okR.1
 refine⟨f2',us,dP Sum.inr sps,rfl,aA.of f9,?_,?_,fun sl hsl=>⟨_,rfl,x,C,dx,_,rfl,kp (S9 _ _ hx8) hsl,M.cls,M.a8,by omega,?_⟩⟩
 ·rw[Paired.length hpa];unfold dP;rw[am]
 ·intro j t kv hj hkv;obtain⟨p,hp,e⟩:=Paired.getL hpa hj;unfold dP at hkv;rw[cb,hp]at hkv;have:=dX hkv;rw[<-this];exact e
 have emerge:jk [] (dP Sum.inr sps)=dP Sum.inr sps:=sW sps [] nds;rw[emerge];obtain⟨H9,e9,hx9,F9⟩:=yL "still_led" (.ref sl) (kp (x:=.dK (dP Sum.inr sps)) (S9 _ _ hx8) hsl);rw[<-e9];have n9:sl≠x:=(ah (S9 _ _ hx8) hsl).symm;have fsl:=F9 _ _ aa n9;have E9:dO x H8 H9:=((ae.exB S9).trans (dO.new hsl)).trans F9;have L9:=L8.exI hx8 E9;have hled9:∀p∈sps,∃L,H9 p.2=some (.dK (bH L))/\L.Nodup/\∀w,w∈L↔Reach ds p.1 w:=fun p hp=>by
  obtain⟨L0,g1,g2⟩:=hled p hp;have g3:=kp (x:=.dK (dP Sum.inr sps)) g1 hsl;exact⟨L0,F9 _ _ g3 (EC (kp (S9 _ _ hx8) hsl) g3),g2⟩
 clear e9 F9;have lk8:lk "still_led" (c7 ("still_led":Str) (.ref sl) (c7 ("sign_goals":Str) (.ref sg) (c7 ("quiet":Str) (.ref qu) (c7 ("leaving":Str) (.ref lv) fs4))))=some (.ref sl):=by
  show iW _ _=_;rw[eG,if_pos rfl]
 refine⟨_,rfl,_,rfl,x,C,dx,_,.ref sl,rfl,hx9,M.cls,M.a8,lk8,l3,sl,J5,sps,(fun r=>Reach ds r r),rfl,L9.a3,fsl,hsps,m.okR.1,fun p hp=>?_,fun o H10 fo S10=>sV (fun ho=>k H10 (ho▸fo) ?_ ?_) fun n hn a H' xa s=>kx n a H' (hn▸fo) xa ?_⟩
 ·obtain⟨L0,g1,g2,g3⟩:=hled9 p hp;exact⟨L0,g1,g3 _⟩
 ·have X69:dO x H6 H9:=(E7.trans E8).trans E9;have X59:=((E6.trans E7).trans E8).trans E9;have Y:∀{b:Addr}{o:HO},H9 b=some o->H10 b=some o:=fun h=>S10 _ _ h;have LL:Lists H5 o1 o2 o3 o4 ts J0 J4 J5 ds:=⟨(E3.trans (E4.trans E5)) _ _ f1 n1,(E4.trans E5) _ _ f2 n2,E5 _ _ f3 n3,f4,L5.ds⟩;refine⟨⟨dx,_,o1,o2,o3,o4,lv,qu,sg,sl,ts,lps,gps,sps,Y hx9,?_,?_,?_,?_,?_,?_,?_,?_,?_,?_,?_,lk8,(LL.exI hx5 X59).same S10,hlps,?_,?_,?_,?_,hsps,Y fsl,fun p hp=>?_⟩,⟨dx,_,Y hx9,?_,?_,?_,?_⟩⟩
  rotate_right 9
  ·exact Y (X69 _ _ flv (EC hx6 flv))
  ·intro y hy;obtain⟨us',g1,g2⟩:=hlv y hy;exact⟨us',Y (X69 _ _ g1 (dO.neI hx6 g1)),(g2.kt (X69.ktI hx6)).kt (ae.kt S10)⟩
  ·exact Y ((E8.trans E9) _ _ fqu n7)
  ·exact ij.same ⟨G8.nd,E9 _ _ G8.g (Hb hx8 G8.g),fun y hy=>E9 _ _ (G8.ls y hy) (dO.neI hx8 (G8.ls y hy)),G8.all⟩ S10
  ·obtain⟨L0,g1,g2⟩:=hled9 p hp;exact⟨L0,Y g1,g2⟩
  all_goals(show iW _ _=_;subst hfs4;repeat (rw[eG];first|rw[if_pos rfl] | rw[if_neg (by decide +kernel)]))
  all_goals rfl
 ·exact((((((((E1.trans E2).trans E3).trans E4).trans E5).trans E6).trans E7).trans E8).trans E9).trans (ae.exB S10)
 ·exact(((((((((E1.trans E2).trans E3).trans E4).trans E5).trans E6).trans E7).trans E8).trans E9).trans (ae.exB S10)).trans (ae.exB s)
def eo(J0 J4 J5:Zb)(ds:List aq)(o:Option (Str×Nat)):Prop :=
 (∃p n,o=some (p,n)/\eD J0 J4 J5 ds=some (p,n))∨(fW J0 J4 J5 ds/\∃q,gF J5 (fun r=>Reach ds r r) q/\o=q.map fun n=>(("still":Str),n))
theorem eo.uniq{J0 J4 J5:Zb}{ds:List aq}{o o':Option (Str×Nat)}(h:eo J0 J4 J5 ds o)(h':eo J0 J4 J5 ds o'):o=o':=by
 rcases h with⟨p,n,rfl,w⟩|⟨m,q,f,rfl⟩<;>rcases h' with⟨p',n',rfl,w'⟩|⟨m',q',f',rfl⟩
 ·rw[w]at w';exact w'
 ·rw[jM m']at w;cases w
 ·rw[jM m]at w';cases w'
 ·rw[f.uniq f']
inductive nK(C Cx:Addr)(vs:List V)(H:Hp)(Q:VK)(E:XK):Prop
 |mk (x dx l1 l2 l3 l4:Addr) (ts:Ze) (J0 J4 J5:Zb) (ds:List aq) (o:Option (Str×Nat)):(vs=[.ref x,.ref l1,.ref l2,.ref l3,.ref l4])->(H x=some (.ins C dx []))->(Lists H l1 l2 l3 l4 ts J0 J4 J5 ds)->(Fz J0 J4 J5 ds)->(eo J0 J4 J5 ds o)->((o=none->∀H',y8 C H' x J0 J4 J5 ds->dO x H H'->Q .non H'))->(∀p n,o=some (p,n)->∀a H',IW Cx H' a (.str p) (.int (n:Nat))->dO x H H'->E (.ref Cx) (some a) H')->nK C Cx vs H Q E
theorem DS{K:Za}{C Cx:Addr}(M:MC K C){vs:List V}{H:Hp}{Q:VK}{E:XK}(h:nK C Cx vs H Q E):
  iA K (Ar (dh Cx) E) cK sG kM (sp_as_keys K) sp_has_asks_alone sp_doors_by_start (Ar (eF Cx) E) (bT Q) (start iO vs) H:=by
 obtain⟨x,dx,l1,l2,l3,l4,ts,J0,J4,J5,ds,o,rfl,hx,L,F,v,k,kx⟩:=h;rcases v with⟨p,n,rfl,w⟩|⟨m,q,f,rfl⟩
 ·refine⟨_,rfl,_,rfl,_,rfl,_,rfl,l1,l2,l3,l4,ts,J0,J4,J5,ds,rfl,L,F,fun z=>?_,fun p' n' e a H' xa s=>?_⟩
  ·rw[w]at z;cases z
  ·rw[w]at e;cases e;exact kx _ _ rfl a H' xa (ae.exB s)
 ·refine DU M ⟨x,dx,l1,l2,l3,l4,ts,J0,J4,J5,ds,rfl,hx,L,m,fun H' f' mb ex=>?_,fun n a H' f' xa ex=>?_⟩
  ·rw[f.uniq f']at k;exact k rfl H' mb ex
  ·rw[f.uniq f']at kx;exact kx _ _ rfl a H' xa ex
def ua(K:Za):TS :=
 ax (cG (bx (aK qJ (dD (cV K) (aE V0)) (tC (.int 1)))) (aZ (aK (um K) V0 (dZ (aE (tC (.str "still")))))) (bo))
 (aZ (HE (iC (aK qJ (aK (ym K) V0 (tC (.int 0))) (tC (.str "ask"))) (aK (nR K false) (aK (ym K) V0 (tC (.int 1))) V1)) (iC (aK qJ (aK (ym K) V0 (tC (.int 0))) (tC (.str "say"))) (aK (nR K false) (aK (ym K) V0 (tC (.int 1))) V2))))
def uy:List Str:=["sign","asks","says"]
def oY(K:Za)(sp_law_is_sign:Sp):TS :=
 ax (aV (v8) U4)
 (ax (fJ (lh K (aE (mZ (jj K) V3 (bI) (cy (tC (.int 2000)))))) (ic K 2 (be U5 (be (ic K 3 (be U6 (be U7 (be U8 (g_))))) (g_)))) (ax (cG (C8 (bx (aK (nR K true) V6 V2)) (C8 (bx (aK (nR K true) V8 V2)) (sw (tB (aR sp_law_is_sign (gH V7 V0 V1)))))) (aZ V5) (bo))
 (ax (cG (tB (Dw K (dZ (gH V6 V7 V8)) V4)) (aZ V5) (bo))
 (sI V4 (dZ (gH V6 V7 V8)) (tC (.bl true))))))
 (ax (cG (bx (aK Cr (dD (cV K) (aE V3)) (tC (.int 2000)))) (aZ (tC (.int 2000))) (bo))
 (aZ (tC .non))))
def pR:List Str:=["asks","says","rooms","doors","seen","number","room","sign","other"]
def xW(K:Za)(sp_law_still_on:Sp):TS :=
 ax (aV (dQ 1 [] (dq K V1) U0 (bx (aK (um K) (aK (Cq K) V0 (tC (.int 1))) (dZ (aE (tC (.str "still")))))) V0) U2)
 (ax (fJ (lh K (aE V0)) (ic K 2 (be U3 (be U4 (g_)))) (ax (aV (dQ 1 [4] (dq K V2) U0 (bx (aK qJ (aK (Cq K) V0 (tC (.int 0))) V1)) (aK (Cq K) V0 (tC (.int 2)))) U5)
 (cG (bx (aK (nR K false) V4 (aR sp_law_still_on (ba V2 V5)))) (aZ V3) (bo))))
 (aZ (tC .non)))
def y3:List Str:=["rooms","doors","stills","number","room","behind"]
def Ca(K:Za)(sp_law_round:Sp)(sp_law_wrong_door:Sp)(sp_law_first_wrong:Sp):TS :=
 ax (aV (eI (az (dZ (ba (tC (.str "asks")) (aR sp_law_first_wrong (gH V0 (tC (.int 4)) (eI (bF)))))) bF)) U4)
 (ax (eE (uf K "list" fM V4 (az (dZ (ba (tC (.str "says")) (aR sp_law_first_wrong (gH V1 (tC (.int 4)) V0)))) bF)))
 (ax (eE (uf K "list" fM V4 (az (dZ (ba (tC (.str "rooms")) (aR sp_law_first_wrong (gH V2 (tC (.int 150)) (eI (bF)))))) bF)))
 (ax (eE (uf K "list" fM V4 (az (dZ (ba (tC (.str "doors")) (aR sp_law_wrong_door (az V0 (gH V1 V2 V3))))) bF)))
 (ax (fJ (dq K V4) (ic K 2 (be U5 (be U6 (g_)))) (cG (tB (A_ V6)) (aZ (dZ (ba V5 V6))) (bo)))
 (ax (aV (aR sp_law_round (ba V2 V3)) U6)
 (ax (cG (tB (A_ V6)) (aZ (dZ (ba (tC (.str "still")) V6))) (bo))
 (aZ (eI (az V0 (gH V1 V2 V3))))))))))
def CW:List Str:=["asks","says","rooms","doors","wrong","part","number"]
theorem CB{x:Str}{J0 J4:Zb}:decide ([x]∈bz J0 J4)=decide ([x]=aG):=by
 by_cases h:[x]=aG
 ·rw[zzr1 h,zzr1];exact dw _ (by rw[h];exact cp)
 ·rw[zzr0 h,zzr0];intro z;rcases bJ.mp z with z|z
  ·rcases bJ.mp z with z|z<;>obtain⟨w,_,e⟩:=aO.mp z<;>cases e
  ·exact h (by simpa using z)
theorem jB{x y:Str}{J0 J4:Zb}:[x,y]∈bz J0 J4↔(x="ask"/\y∈J0)∨(x="say"/\y∈J4):=by
 constructor
 ·intro z;rcases bJ.mp z with z|z
  ·rcases bJ.mp z with z|z<;>obtain⟨w,hw,e⟩:=aO.mp z<;>injection e with e1 e2<;>injection e2 with e2 _<;>subst e1<;>subst e2
   ·exact .inl ⟨rfl,hw⟩
   ·exact .inr ⟨rfl,hw⟩
  ·have:[x,y]=aG:=by simpa using z
   cases this
 ·rintro(⟨rfl,h⟩|⟨rfl,h⟩)
  ·exact cJ _ (cJ _ (aO.mpr ⟨y,h,rfl⟩))
  ·exact cJ _ (dw _ (aO.mpr ⟨y,h,rfl⟩))
inductive jQ (vs:List V)(H:Hp)(Q:VK)(E:XK):Prop
 |mk (s l1 l2:Addr) (sg J0 J4:Zb):(vs=[.ref s,.ref l1,.ref l2])->(SignAt H s sg)->((sg.length=1∨sg.length=2))->(H l1=some (.lst (J0.map V.str)))->(H l2=some (.lst (J4.map V.str)))->(∀H',ae H H'->Q (.bl (decide (sg∈bz J0 J4))) H')->jQ  vs H Q E
theorem zU{K:Za}{vs:List V}{H:Hp}{Q:VK}{E:XK}(h:jQ vs H Q E):ua K (bT Q) (start uy vs) H:=by
 obtain⟨s,l1,l2,sg,J0,J4,rfl,hs,z,h1,h2,k⟩:=h;have st:b_ K H s (sg.map V.str):=b_.of hs;refine⟨_,rfl,.inl ⟨s,_,rfl,.inr st,rfl,_,rfl,?_⟩⟩;rcases z with z|z
 ·obtain⟨x,rfl⟩:∃x,sg=[x]:=by
   match sg,z with
   |[x],_=>exact⟨x,rfl⟩
  refine eA (fun _=>?_) (fun c=>absurd (zzr1 rfl) c);refine⟨_,rfl,(by show 1<=aj;decide),fun t ht=>⟨ut [x],ut aG,fU (b_.of (kp hs ht)),fU (b_.of aa),by rw[i9];decide,by rw[i9];decide,?_⟩⟩;rw[w_,<-CB (J0:=J0) (J4:=J4)];exact k _ (ae.new ht)
 ·obtain⟨x,y,rfl⟩:∃x y,sg=[x,y]:=by
   match sg,z with
   |[x,y],_=>exact⟨x,y,rfl⟩
  have k:=k H (ae.refl _);refine eA (fun c=>?_) (fun _=>?_)
  ·have:=of_decide_eq_true c;cases this
  have yes:[x,y]∈bz J0 J4->Q (.bl true) H:=fun c=>by rw[zzr1 c]at k;exact k
  have no:[x,y]∉bz J0 J4->Q (.bl false) H:=fun c=>by rw[zzr0 c]at k;exact k
  have ns:¬(("ask":Str)="say"):=by decide +kernel
  refine⟨_,rfl,s,_,0,.str x,rfl,rfl,st,rfl,rfl,_,rfl,?_⟩;have dec:∀{u:Str},(decide (V.str x=V.str u)=true↔x=u):=fun{u}=>⟨fun c=>by have:=of_decide_eq_true c;injection this,fun e=>zzr1 (by rw[e])⟩;refine eA (fun c=>?_) (fun c=>?_)
  ·have c:=dec.mp c;subst c;refine⟨_,rfl,s,_,1,.str y,rfl,rfl,st,rfl,_,rfl,aS y,J0.map aS,l1,_,i_ y,rfl,.inl (aA.of h1),fS _,bR _,by rw[bY];decide,_,rfl,?_⟩;refine eA (fun d=>?_) (fun d=>?_)
   ·exact yes (jB.mpr (.inl ⟨rfl,lR.mp (of_decide_eq_true d)⟩))
   ·refine⟨_,rfl,s,_,0,.str "ask",rfl,rfl,st,rfl,rfl,_,rfl,?_⟩;refine eA (fun c=>absurd (dec.mp c) ns) (fun _=>no fun z=>?_);rcases jB.mp z with z|z
    ·exact d (zzr1 (lR.mpr z.2))
    ·exact ns z.1
  ·refine⟨_,rfl,bu ?_⟩;have c1:x≠"ask":=fun e=>c (dec.mpr e);refine⟨_,rfl,s,_,0,.str x,rfl,rfl,st,rfl,rfl,_,rfl,?_⟩;refine eA (fun c=>?_) (fun c=>?_)
   ·have c:=dec.mp c;subst c;refine⟨_,rfl,s,_,1,.str y,rfl,rfl,st,rfl,_,rfl,aS y,J4.map aS,l2,_,i_ y,rfl,.inl (aA.of h2),fS _,bR _,by rw[bY];decide,?_⟩;show Q (.bl (decide (aS y∈J4.map aS))) H;rw[lb];by_cases d:y∈J4
    ·rw[zzr1 d];exact yes (jB.mpr (.inr ⟨rfl,d⟩))
    ·rw[zzr0 d];refine no fun z=>?_;rcases jB.mp z with z|z
     ·exact c1 z.1
     ·exact d z.2
   ·refine no fun z=>?_;rcases jB.mp z with z|z
    ·exact c1 z.1
    ·exact c (dec.mpr z.1)
def Fs(ds:List aq):Prop:=∀d∈ds,d.sg.length=1∨d.sg.length=2
inductive gC (vs:List V)(H:Hp)(Q:VK)(E:XK):Prop
 |mk (l1 l2 l3 l4:Addr) (ts:Ze) (J0 J4 J5:Zb) (ds:List aq):(vs=[.ref l1,.ref l2,.ref l3,.ref l4])->(Lists H l1 l2 l3 l4 ts J0 J4 J5 ds)->(Fz J0 J4 J5 ds)->(Fs ds)->(∀H',ae H H'->Q (oV (t6 J5 (bz J0 J4) 0 [] ds)) H')->gC  vs H Q E
theorem uh{K:Za}{vs:List V}{H:Hp}{Q:VK}{E:XK}(h:gC vs H Q E):oY K jQ (bT Q) (start pR vs) H:=by
 obtain⟨l1,l2,l3,l4,ts,J0,J4,J5,ds,rfl,L,F,G,k⟩:=h;have z4:=F.d;have lts:ts.length=ds.length:=Paired.length L.ds;refine fun e he=>?_;have hS0:ae H (upd H e (.dT [])):=ae.new he;have e0:upd H e (.dT []) e=some (.dT []):=aa;generalize upd H e (.dT [])=H0 at hS0 e0 ⊢;refine⟨_,rfl,_,rfl,l4,_,rfl,aA.of (hS0 _ _ L.a4),fun p2 hp2=>?_⟩;have S2:ae H0 (upd H0 p2 (.lst (df (ts.map V.ref) none (some (2000:Int))))):=ae.new hp2;have e2:upd H0 p2 (.lst (df (ts.map V.ref) none (some (2000:Int)))) p2=some (.lst ((ts.take 2000).map V.ref)):=by
  rw[aa,rO];exact congrArg (fun z=>some (HO.lst z)) (yT (ts.map V.ref) 2000)
 have ee:=S2 _ _ e0;have SH:=hS0.trans S2;have heH:H e=none:=he;generalize upd H0 p2 (.lst (df (ts.map V.ref) none (some (2000:Int))))=H2 at S2 e2 ee SH ⊢;refine⟨p2,rfl,⟨_,aA.of e2⟩,?_⟩;have np2:p2≠e:=fun z=>by rw[z,ee]at e2;cases e2
 refine eW (xs:=(ts.take 2000).map V.ref) (fun i σ H'=>∃x y z w,σ=[some (.ref l1),some (.ref l2),some (.ref l3),some (.ref l4),some (.ref e),x,y,z,w]/\ae H H'/\H' p2=some (.lst ((ts.take 2000).map V.ref))/\H' e=some (.dT (i7 ((ds.take i).map xh)))/\t6 J5 (bz J0 J4) i (ds.take i) (ds.drop i)=t6 J5 (bz J0 J4) 0 [] ds)
  ⟨_,_,_,_,rfl,SH,e2,ee,rfl⟩ (fun i σ H' _ ⟨_,_,_,_,_,_,g,_⟩=>aA.of g) ?_ ?_
 ·rintro i x σ H' q hi ⟨x5,x6,x7,x8,rfl,hS,hp',he',hf⟩ hq;obtain⟨t,ht',rfl⟩:=dH hi;have him:i<2000/\ts[i]?=some t:=by
   rw[List.getElem?_take]at ht';split at ht'
   ·exact⟨by assumption,ht'⟩
   ·cases ht'
  obtain⟨dr,hdr,hat⟩:=Paired.getL L.ds him.2;have hil:i<ds.length:=(db.mp hdr).1;have ed:ds.drop i=dr::ds.drop (i+1):=by
   rw[jJ hil];congr 1;exact(db.mp hdr).2
  rw[ed]at hf;have hS2:ae H (upd H' q (.tup [.int i,.ref t])):=hS.trans (ae.new hq);have hq2:upd H' q (.tup [.int i,.ref t]) q=some (.tup [.int i,.ref t]):=aa;have hp2':upd H' q (.tup [.int i,.ref t]) p2=_:=kp hp' hq;have he2:upd H' q (.tup [.int i,.ref t]) e=_:=kp he' hq;generalize upd H' q (.tup [.int i,.ref t])=H3 at hq2 hp2' he2 hS2 ⊢;obtain⟨s,ht2,hs2⟩:=hat.kt (ae.kt hS2);refine⟨q,_,rfl,b_.of hq2,rfl,_,_,rfl,_,_,rfl,t,_,rfl,b_.of ht2,rfl,_,_,rfl,_,_,rfl,_,_,rfl,rfl,rfl,?_⟩;have L3:=L.same hS2;have bad:∀H',ae H3 H'->(i=2000∨dr∈ds.take i∨dr.a∉J5∨dr.sg∉bz J0 J4∨dr.b∉J5)->Q (.int i) H':=by
   intro H' sx c;have:=k H' (hS2.trans sx);rw[<-hf]at this;unfold t6 at this;rw[if_pos c]at this;exact this
  refine⟨_,rfl,_,rfl,aS dr.a,J5.map aS,l3,_,i_ _,rfl,.inl (aA.of L3.a3),fS _,bR _,by rw[bY];decide,_,rfl,?_⟩;rw[if_pos rfl,lb];by_cases c3:dr.a∈J5;rotate_left
  ·rw[zzr0 c3];exact bE (bE ⟨_,rfl,bad _ (ae.refl _) (.inr (.inr (.inl c3)))⟩)
  rw[zzr1 c3];refine bu ?_;refine⟨_,rfl,_,rfl,aS dr.b,J5.map aS,l3,_,i_ _,rfl,.inl (aA.of L3.a3),fS _,bR _,by rw[bY];decide,_,rfl,?_⟩;rw[if_pos rfl,lb];by_cases c5:dr.b∈J5;rotate_left
  ·rw[zzr0 c5];exact bE (bE ⟨_,rfl,bad _ (ae.refl _) (.inr (.inr (.inr (.inr c5))))⟩)
  rw[zzr1 c5];refine bu ?_;refine⟨_,rfl,_,rfl,_,rfl,s,l1,l2,dr.sg,J0,J4,rfl,hs2,G dr (cu hdr),L3.a1,L3.a2,fun H4 S4=>⟨_,rfl,?_⟩⟩;by_cases c4:dr.sg∈bz J0 J4;rotate_left
  ·rw[zzr0 c4];exact bE ⟨_,rfl,bad _ S4 (.inr (.inr (.inr (.inl c4))))⟩
  rw[zzr1 c4];refine bu ?_;refine⟨_,rfl,_,rfl,_,rfl,(by show 3<=aj;decide),fun u hu=>?_⟩;have S5:ae H3 (upd H4 u (.tup [.str dr.a,.ref s,.str dr.b])):=S4.trans (ae.new hu);have hu5:eU (upd H4 u (.tup [.str dr.a,.ref s,.str dr.b])) u dr:=⟨s,aa,S5 _ _ hs2⟩;generalize upd H4 u (.tup [.str dr.a,.ref s,.str dr.b])=H5 at S5 hu5 ⊢;have hd8:(xh dr).depth<=8:=by rw[oX];decide
  refine⟨_,rfl,e,_,rfl,.inr ⟨_,xh dr,u,.inl (S5 _ _ he2),rfl,ii.isIn 8 hd8 hu5.tk,hd8,rfl⟩,_,rfl,?_⟩;rw[yz];by_cases c2:dr∈ds.take i
  ·rw[zzr1 (rh.mpr c2)];exact bE ⟨_,rfl,bad _ S5 (.inr (.inl c2))⟩
  rw[zzr0 (fun z=>c2 (rh.mp z))];refine bu ?_;refine⟨_,rfl,_,rfl,_,rfl,_,rfl,(by show 3<=aj;decide),fun u2 hu2=>?_⟩;have S6:ae H3 (upd H5 u2 (.tup [.str dr.a,.ref s,.str dr.b])):=S5.trans (ae.new hu2);have hu6:eU (upd H5 u2 (.tup [.str dr.a,.ref s,.str dr.b])) u2 dr:=⟨s,aa,S6 _ _ hs2⟩;generalize upd H5 u2 (.tup [.str dr.a,.ref s,.str dr.b])=H6 at S6 hu6 ⊢;have hlen:(i7 ((ds.take i).map xh)).length<aj:=aW (bj (u7 _) (by rw[am,aP];omega));refine⟨e,_,rfl,.inr ⟨_,xh dr,u2,S6 _ _ he2,rfl,hu6.tk,hd8,hlen,rfl⟩,_,_,_,_,rfl,?_,?_,?_,?_⟩
  ·intro b o q;rw[ai (ah q heH)];exact S6 _ _ (hS2 _ _ q)
  ·rw[ai np2];exact S6 _ _ hp2'
  ·rw[aa,take_snoc hdr,aQ];exact congrArg (fun z=>some (HO.dT z)) (jW _ _).symm
  ·rw[<-hf,take_snoc hdr]
   conv=>rhs;unfold t6
   rw[if_neg];rintro(z|z|z|z|z)
   ·omega
   ·exact c2 z
   ·exact z c3
   ·exact z c4
   ·exact z c5
 ·rintro σ H' ⟨x,y,z,w,rfl,hS,_,_,hf⟩;rw[am,aP,lts]at hf;refine⟨_,rfl,.inl ⟨l4,_,rfl,.inl (aA.of (hS _ _ L.a4)),_,_,rfl,rfl,_,rfl,?_⟩⟩;rw[am,lts];have kk:=k H' hS;rw[<-hf]at kk;refine eA (fun c=>?_) (fun c=>?_)
  ·have c:2000<ds.length:=by have:=of_decide_eq_true c;omega
   rw[oz (by omega),jJ c]at kk;unfold t6 at kk;rw[if_pos (.inl rfl)]at kk;exact kk
  ·have c:ds.length<=2000:=by
    rcases Nat.lt_or_ge 2000 ds.length with z|z
    ·exact absurd (zzr1 (by omega)) c
    ·exact z
   rw[vp c,kA]at kk;exact kk
def iD(d:aq):Bool:=decide (d.sg=aG)
def jE(ds:List aq)(r:Str):List Str:=((ds.filter iD).filter fun d=>decide (d.a=r)).map aq.b
theorem sE{ds:List aq}{a b:Str}:(⟨a,aG,b⟩:aq)∈ds.filter iD↔(⟨a,aG,b⟩:aq)∈ds :=
 ⟨fun h=>(ir.mp h).1,fun h=>ir.mpr ⟨h,zzr1 rfl⟩⟩
theorem Reach.mono{ds ds':List aq}(h:∀a b,(⟨a,aG,b⟩:aq)∈ds->(⟨a,aG,b⟩:aq)∈ds'){a b:Str}(r:Reach ds a b):Reach ds' a b:=by
 induction r with
 |one e=>exact .one (h _ _ e)
 |step _ e ih=>exact .step ih (h _ _ e)
theorem Reach.front{ds:List aq}{a b:Str}(r:Reach ds a b):∃g,(⟨a,aG,g⟩:aq)∈ds/\(b=g∨Reach ds g b):=by
 induction r with
 |one e=>exact⟨_,e,.inl rfl⟩
 |step _ e ih =>
  obtain⟨g,hg,z⟩:=ih;refine⟨g,hg,.inr ?_⟩;rcases z with z|z
  ·subst z;exact .one e
  ·exact .step z e
theorem mL{ds:List aq}{r g:Str}:g∈jE ds r↔(⟨r,aG,g⟩:aq)∈ds:=by
 constructor
 ·intro h;obtain⟨d,hd,e⟩:=aO.mp h;obtain⟨h1,h2⟩:=ir.mp hd;obtain⟨h3,h4⟩:=ir.mp h1;have h2:=of_decide_eq_true h2;have h4:=of_decide_eq_true h4;cases d;simp only at *;subst e;subst h2;subst h4;exact h3
 ·intro h;exact aO.mpr ⟨_,ir.mpr ⟨sE.mpr h,zzr1 rfl⟩,rfl⟩
theorem uR{ds:List aq}{r:Str}:xE (ds.filter iD) (jE ds r) r↔Reach ds r r:=by
 constructor
 ·rintro⟨g,hg,e⟩;have one:=Reach.one (mL.mp hg);rcases e with e|e
  ·rw[<-e]at one;exact one
  ·exact one.trans (e.mono fun a b=>sE.mp)
 ·intro h;obtain⟨g,hg,e⟩:=h.front;exact⟨g,mL.mpr hg,e.imp id fun z=>z.mono fun a b=>sE.mpr⟩
theorem xu{ds:List aq}(nd:ds.Nodup)(r:Str):(jE ds r).Nodup:=by
 unfold jE List.Nodup;rw[List.pairwise_map];have nd2:((ds.filter iD).filter fun d=>decide (d.a=r)).Nodup:=(nd.filter _).filter _;refine List.Pairwise.imp_of_mem (fun{a b} ha hb ne e=>ne ?_) nd2;obtain⟨h1,h2⟩:=ir.mp ha;obtain⟨g1,g2⟩:=ir.mp hb;have h3:=of_decide_eq_true (ir.mp h1).2;have g3:=of_decide_eq_true (ir.mp g1).2;have h2:=of_decide_eq_true h2;have g2:=of_decide_eq_true g2;cases a;cases b;simp only at *;rw[e,h2,g2,h3,g3]
theorem tu(P:Str->Prop):∀J5:List Str,∃o,gF J5 P o
 |[]=>⟨none,.inl ⟨rfl,fun _ h=>nomatch h⟩⟩
 |r::rs=>by
  by_cases h:P r
  ·exact⟨some 0,.inr ⟨0,r,rfl,rfl,h,fun j x z=>absurd z (Nat.not_lt_zero _)⟩⟩
  ·obtain⟨o,ho⟩:=tu P rs;rcases ho with⟨rfl,z⟩|⟨n,x,rfl,e,p,b⟩
   ·refine⟨none,.inl ⟨rfl,fun y hy=>?_⟩⟩;rcases bw.mp hy with q|q
    ·rw[q];exact h
    ·exact z y q
   ·refine⟨some (n+1),.inr ⟨n+1,x,rfl,e,p,fun j y hj ey=>?_⟩⟩;cases j with
    |zero=>cases ey;exact h
    |succ j=>exact b j y (by omega) ey
theorem BG{J5:Zb}{sgs:List (List Str)}:∀{ds ahead:List aq}{i:Nat},t6 J5 sgs i ahead ds=none->i<=2000->(i+ds.length<=2000)/\(∀d∈ds,d∉ahead/\d.a∈J5/\d.sg∈sgs/\d.b∈J5)/\ds.Nodup
 |[],ahead,i,_,hi=>⟨hi,(fun _ h=>nomatch h),ix⟩
 |n::ns,ahead,i,h,hi=>by
  unfold t6 at h;split at h
  ·cases h
  ·rename_i c;have c1:i≠2000:=fun z=>c (.inl z);have c2:n∉ahead:=fun z=>c (.inr (.inl z));have c3:n.a∈J5:=Decidable.by_contra fun z=>c (.inr (.inr (.inl z)));have c4:n.sg∈sgs:=Decidable.by_contra fun z=>c (.inr (.inr (.inr (.inl z))));have c5:n.b∈J5:=Decidable.by_contra fun z=>c (.inr (.inr (.inr (.inr z))));obtain⟨g1,g2,g3⟩:=BG h (by omega);refine⟨by rw[cw];omega,fun w hw=>?_,?_⟩
   ·rcases bw.mp hw with e|e
    ·rw[e];exact⟨c2,c3,c4,c5⟩
    ·exact⟨fun z=>(g2 w e).1 (cJ _ z),(g2 w e).2⟩
   ·exact ji.mpr ⟨fun z=>(g2 n z).1 (by simp),g3⟩
theorem zh{J0 J4 J5:Zb}{ds:List aq}(h:eD J0 J4 J5 ds=none):fW J0 J4 J5 ds:=by
 unfold eD at h;cases w1:au J0 4 []with
 |some n=>rw[w1]at h;cases h
 |none =>
  cases w2:au J4 4 J0 with
  |some n=>rw[w1,w2]at h;cases h
  |none =>
   cases w3:au J5 150 []with
   |some n=>rw[w1,w2,w3]at h;cases h
   |none =>
    cases w4:t6 J5 (bz J0 J4) 0 [] ds with
    |some n=>rw[w1,w2,w3,w4]at h;cases h
    |none =>
     obtain⟨a0,a4,okA,_⟩:=eS w1;obtain⟨s0,s4,okS,ap⟩:=eS w2;obtain⟨r0,r4,okR,_⟩:=eS w3;obtain⟨g1,g2,g3⟩:=BG w4 (by decide);refine⟨okA,okS,ap,okR,a0,s0,r0,a4,s4,r4,g3,fun d hd=>?_,by omega⟩;obtain⟨_,h1,h2,h3⟩:=g2 d hd;refine⟨h1,h3,?_⟩;rcases bJ.mp h2 with z|z
     ·rcases bJ.mp z with z|z<;>obtain⟨w,hw,e⟩:=aO.mp z
      ·exact .inl ⟨w,hw,e.symm⟩
      ·exact .inr (.inl ⟨w,hw,e.symm⟩)
     ·exact .inr (.inr (by simpa using z))
theorem zj(J0 J4 J5:Zb)(ds:List aq):∃o,eo J0 J4 J5 ds o:=by
 cases w:eD J0 J4 J5 ds with
 |some pn=>exact⟨some pn,.inl ⟨pn.1,pn.2,rfl,w⟩⟩
 |none =>
  obtain⟨q,hq⟩:=tu (fun r=>Reach ds r r) J5;exact⟨_,.inr ⟨zh w,q,hq,rfl⟩⟩
inductive nE (vs:List V)(H:Hp)(Q:VK)(E:XK):Prop
 |mk (l3 l4:Addr) (ts:Ze) (J0 J4 J5:Zb) (ds:List aq):(vs=[.ref l3,.ref l4])->(H l3=some (.lst (J5.map V.str)))->(H l4=some (.lst (ts.map V.ref)))->(dg H ts ds)->(fW J0 J4 J5 ds)->(∀o H',gF J5 (fun r=>Reach ds r r) o->ae H H'->Q (oV o) H')->nE  vs H Q E
theorem DJ{K:Za}{vs:List V}{H:Hp}{Q:VK}{E:XK}(h:nE vs H Q E):xW K (iY K) (bT Q) (start y3 vs) H:=by
 obtain⟨l3,l4,ts,J0,J4,J5,ds,rfl,h3,h4,hds,m,k⟩:=h;have z4:=m.few;have z3:=m.rooms26;refine⟨_,rfl,l4,rfl,⟨_,aA.of h4⟩,fun f hf=>?_⟩;refine dL (xs:=ts.map V.ref) (fun i vs H'=>∃us:List Addr,vs=us.map V.ref/\dg H' us ((ds.take i).filter iD)/\ae H H'/\H' f=some (.lst vs)) ⟨[],rfl,.nil,ae.new hf,aa⟩ (fun i vs H' _ ⟨_,_,_,S,h'⟩=>⟨h',aA.of (S _ _ h4)⟩) ?_ ?_;rotate_left
 ·rintro i vs H' x hx hi ⟨us,rfl,D,S,f'⟩;obtain⟨t,ht,rfl⟩:=dH hx;obtain⟨dr,hdr,hat⟩:=Paired.getL hds ht;obtain⟨s,ht2,hs2⟩:=hat.kt (ae.kt S);refine gN ⟨_,rfl,.inr (.inl ⟨t,_,1,_,rfl,rfl,b_.of ht2,rfl,(by show 1<=aj;decide),fun st hst=>⟨ut dr.sg,ut aG,fU (b_.of (kp hs2 hst)),fU (b_.of aa),by rw[i9];decide,by rw[i9];decide,_,rfl,?_⟩⟩)⟩;rw[w_];have Sn:ae H' (upd H' st (.tup [.str "still"])):=ae.new hst;have S2:=S.trans Sn;have f2:=Sn _ _ f';have D2:=D.kt (ae.kt Sn);generalize upd H' st (.tup [.str "still"])=H2 at Sn S2 f2 D2 ⊢;refine eA (fun c=>?_) (fun c=>?_)
  ·refine⟨_,rfl,f2,?_,u3 hi ⟨us++[t],by rw[aQ];rfl,?_,?_,aa⟩⟩
   ·rw[am,Paired.length D];refine aW (bj (jG _ _) ?_);rw[aP];omega
   ·rw[ie hdr,if_pos (show iD dr=true from c)];exact Paired.app (D2.kt (jl f2)) (.cons ((hat.kt (ae.kt S2)).kt (jl f2)) .nil)
   ·intro b o q;rw[ai (ah q hf)];exact S2 _ _ q
  ·refine u3 hi ⟨us,rfl,?_,S2,f2⟩;rw[ie hdr,if_neg (show ¬iD dr=true from c),fD];exact D2
 rintro vs H1 ⟨us,rfl,D1,S1,f1⟩;rw[am,Paired.length hds,cZ]at D1;have lus:us.length=(ds.filter iD).length:=Paired.length D1;refine⟨_,rfl,l3,rfl,⟨_,aA.of (S1 _ _ h3)⟩,?_⟩;refine eW (xs:=J5.map V.str) (fun i σ H'=>∃x y z,σ=[some (.ref l3),some (.ref l4),some (.ref f),x,y,z]/\ae H1 H'/\∀j x,j<i->J5[j]?=some x->¬Reach ds x x) ⟨_,_,_,rfl,ae.refl _,fun _ _ z=>absurd z (Nat.not_lt_zero _)⟩ (fun i σ H' _ ⟨_,_,_,_,S,_⟩=>aA.of (S _ _ (S1 _ _ h3))) ?_ ?_
 ·rintro i x σ H' t hi ⟨x2,x3,x4,rfl,S,nb⟩ ht;obtain⟨r,hr,rfl⟩:=dE hi;refine⟨t,_,rfl,b_.of aa,rfl,_,_,rfl,_,_,rfl,rfl,?_⟩;have S2:ae H1 (upd H' t (.tup [.int i,.str r])):=S.trans (ae.new ht);generalize upd H' t (.tup [.int i,.str r])=H2 at S2 ⊢;have f2:=S2 _ _ f1;have D2:=D1.kt (ae.kt S2);refine⟨_,rfl,f,rfl,⟨_,aA.of f2⟩,fun g hg=>?_⟩;refine dL (xs:=us.map V.ref) (fun i vs H'=>vs=((((ds.filter iD).take i).filter fun d=>decide (d.a=r)).map aq.b).map V.str/\ae H2 H'/\H' g=some (.lst vs)) ⟨rfl,ae.new hg,aa⟩ (fun i vs H' _ ⟨_,S,h'⟩=>⟨h',aA.of (S _ _ f2)⟩) ?_ ?_;rotate_left
  ·rintro j vs H' x hx hj ⟨rfl,S,g'⟩;obtain⟨u,hu,rfl⟩:=dH hx;obtain⟨dr,hdr,hat⟩:=Paired.getL D2 hu;obtain⟨s,ht2,hs2⟩:=hat.kt (ae.kt S);refine gN ⟨_,rfl,.inr (.inl ⟨u,_,0,_,rfl,rfl,b_.of ht2,rfl,_,rfl,rfl,_,rfl,?_⟩)⟩;refine eA (fun c=>?_) (fun c=>?_)
   ·have c:dr.a=r:=by have:=of_decide_eq_true c;injection this
    refine⟨_,rfl,.inr (.inl ⟨u,_,2,_,rfl,rfl,b_.of ht2,rfl,g',?_,u3 hj ⟨?_,?_,aa⟩⟩)⟩
    ·rw[am,am];refine aW (bj (jG _ _) ?_);rw[aP];have:=jG iD ds;omega
    ·rw[ie hdr,if_pos (zzr1 c),aQ,aQ];rfl
    ·intro b o q;rw[ai (ah q hg)];exact S _ _ q
   ·have c:¬dr.a=r:=fun e=>c (zzr1 (by rw[e]));refine u3 hj ⟨?_,S,g'⟩;rw[ie hdr,if_neg (fun z=>c (of_decide_eq_true z)),fD]
  rintro vs H3 ⟨rfl,S3,g3⟩;rw[am,lus,cZ]at g3;have inR:∀w∈jE ds r,w∈J5:=fun w hw=>(m.good _ (mL.mp hw)).b;have gz:=nV (xu m.nodup r) inR;refine⟨_,rfl,_,rfl,_,rfl,f,g,us,ds.filter iD,jE ds r,J5,rfl,S3 _ _ f2,D2.kt (ae.kt S3),g3,fun d hd=>(m.good d (ir.mp hd).1).b,by omega,by omega,fun q F H4 hq hF zF _ S4=>⟨aS r,F.map aS,q,_,i_ r,rfl,.inl (aA.of hq),fS _,bR _,by rw[bY];decide,_,rfl,?_⟩⟩;have S04:ae H1 H4:=(S2.trans S3).trans S4;refine eA (fun c=>?_) (fun c=>?_)
  ·have c:r∈F:=lR.mp (of_decide_eq_true c);exact⟨_,rfl,k (some i) H4 (.inr ⟨i,r,rfl,hr,uR.mp ((hF r).mp c),nb⟩) (S1.trans S04)⟩
  ·refine⟨_,_,_,rfl,S04,fun j x l e=>?_⟩;rcases Nat.lt_or_ge j i with z|z
   ·exact nb j x z e
   ·have:j=i:=by omega
    rw[this,hr]at e;cases e;exact fun z=>c (zzr1 (lR.mpr ((hF r).mpr (uR.mpr z))))
 ·rintro σ H' ⟨x,y,z,rfl,S,nb⟩;refine k none H' (.inl ⟨rfl,fun r hr=>?_⟩) (S1.trans S);obtain⟨j,hj,e⟩:=List.mem_iff_getElem.mp hr;exact nb j r (by rw[am];exact hj) (by rw[fh hj,e])
def wR:List (Str×Option Nat)->Option (Str×Nat)
 |[]=>none
 | (p,some n)::_=>some (p,n)
 | (_,none)::r=>wR r
theorem vT(J0 J4 J5:Zb)(ds:List aq):eD J0 J4 J5 ds=wR [("asks",au J0 4 []),("says",au J4 4 J0),("rooms",au J5 150 []),("doors",t6 J5 (bz J0 J4) 0 [] ds)]:=by
 unfold eD;cases au J0 4 []with
 |some n=>rfl
 |none =>
  cases au J4 4 J0 with
  |some n=>rfl
  |none =>
   cases au J5 150 []with
   |some n=>rfl
   |none=>cases t6 J5 (bz J0 J4) 0 [] ds<;>rfl
theorem eo.wrong{J0 J4 J5:Zb}{ds:List aq}{o:Option (Str×Nat)}{p:Str}{n:Nat}(v:eo J0 J4 J5 ds o)(w:eD J0 J4 J5 ds=some (p,n)):o=some (p,n):=v.uniq (.inl ⟨p,n,rfl,w⟩)
theorem eo.right{J0 J4 J5:Zb}{ds:List aq}{o:Option (Str×Nat)}(v:eo J0 J4 J5 ds o)(w:eD J0 J4 J5 ds=none):fW J0 J4 J5 ds/\∃q,gF J5 (fun r=>Reach ds r r) q/\o=q.map fun n=>(("still":Str),n):=by
 rcases v with⟨p,n,_,z⟩|z
 ·rw[w]at z;cases z
 ·exact z
def PnAt(H:Hp)(t:Addr)(po:Str×Option Nat):Prop:=H t=some (.tup [.str po.1,oV po.2])
inductive wc (vs:List V)(H:Hp)(Q:VK)(E:XK):Prop
 |mk (l1 l2 l3 l4:Addr) (ts:Ze) (J0 J4 J5:Zb) (ds:List aq) (o:Option (Str×Nat)):(vs=[.ref l1,.ref l2,.ref l3,.ref l4])->(Lists H l1 l2 l3 l4 ts J0 J4 J5 ds)->(Fz J0 J4 J5 ds)->(Fs ds)->(eo J0 J4 J5 ds o)->((o=none->∀(r:Addr) (H':Hp),H' r=some (.lst [.ref l1,.ref l2,.ref l3,.ref l4])->ae H H'->Q (.ref r) H'))->(∀p n,o=some (p,n)->∀t H',H' t=some (.tup [.str p,.int (n:Nat)])->ae H H'->Q (.ref t) H')->wc  vs H Q E
theorem HR{K:Za}{vs:List V}{H:Hp}{Q:VK}{E:XK}(h:wc vs H Q E):Ca K nE gC (wb K) (bT Q) (start CW vs) H:=by
 obtain⟨l1,l2,l3,l4,ts,J0,J4,J5,ds,o,rfl,L,F,G,v,k,kx⟩:=h;have z1:=F.a;have z2:=F.s;have z3:=F.r;have wf:=vT J0 J4 J5 ds;refine⟨_,rfl,(by show 0<=aj;decide),fun q hq=>?_⟩;have S1:ae H (upd H q (.lst [])):=ae.new hq;refine⟨l1,q,J0,[],4,rfl,S1 _ _ L.a1,aa,by omega,by decide,F.wa,fun H1 s1=>⟨(by show 2<=aj;decide),fun t1 ht1=>⟨(by show 1<=aj;decide),fun w hw=>?_⟩⟩⟩;generalize au J0 4 []=o1 at wf ht1 hw ⊢;have T1:=((S1.trans s1).trans (ae.new (o:=.tup [.str "asks",oV o1]) ht1));have hwH:H w=none:=T1.free hw;have T1:=T1.trans (ae.new (o:=.lst [.ref t1]) hw);have g1:upd (upd H1 t1 (.tup [.str "asks",oV o1])) w (.lst [.ref t1]) t1=some (.tup [.str "asks",oV o1]):=kp aa hw;have e1:upd (upd H1 t1 (.tup [.str "asks",oV o1])) w (.lst [.ref t1]) w=some (.lst [.ref t1]):=aa;generalize upd (upd H1 t1 (.tup [.str "asks",oV o1])) w (.lst [.ref t1])=H2 at T1 g1 e1 ⊢;have nw:∀{Hx:Hp}{t:Addr}{xs ys:List V}{o:HO},Hx w=some (.lst ys)->Hx t=some (.tup xs)->upd Hx w o t=some (.tup xs):=fun h1 h2=>by
  rw[ai (fun z=>by rw[z,h1]at h2;cases h2)];exact h2
 refine⟨_,rfl,.inl ⟨rfl,_,aA.of e1⟩,?_⟩;refine⟨_,rfl,_,rfl,l2,l1,J4,J0,4,rfl,T1 _ _ L.a2,T1 _ _ L.a1,by omega,by decide,F.ws,fun H3 s3=>⟨(by show 2<=aj;decide),fun t2 ht2=>?_⟩⟩;generalize au J4 4 J0=o2 at wf ht2 ⊢;have sn:=s3.trans (ae.new (o:=.tup [.str "says",oV o2]) ht2);have e2:=sn _ _ e1;have g1:=sn _ _ g1;have g2:upd H3 t2 (.tup [.str "says",oV o2]) t2=some (.tup [.str "says",oV o2]):=aa;have T2:=T1.trans sn;generalize upd H3 t2 (.tup [.str "says",oV o2])=H4 at e2 g1 g2 T2 sn ⊢;refine⟨w,_,_,rfl,rfl,e2,(by show 1<aj;decide),?_⟩;have T3:ae H (upd H4 w (.lst ([.ref t1]++[.ref t2]))):=fun b o q=>by rw[ai (ah q hwH)];exact T2 _ _ q
 have e3:upd H4 w (.lst ([.ref t1]++[.ref t2])) w=some (.lst [.ref t1,.ref t2]):=aa;have g1:=nw (o:=.lst ([.ref t1]++[.ref t2])) e2 g1;have g2:=nw (o:=.lst ([.ref t1]++[.ref t2])) e2 g2;generalize upd H4 w (.lst ([.ref t1]++[.ref t2]))=H5 at T3 e3 g1 g2 ⊢;refine⟨_,rfl,.inl ⟨rfl,_,aA.of e3⟩,?_⟩;refine⟨_,rfl,(by show 0<=aj;decide),fun q3 hq3=>?_⟩;have S3:ae H5 (upd H5 q3 (.lst [])):=ae.new hq3;refine⟨l3,q3,J5,[],150,rfl,S3 _ _ (T3 _ _ L.a3),aa,by omega,by decide,F.wr,fun H6 s6=>⟨(by show 2<=aj;decide),fun t3 ht3=>?_⟩⟩;generalize au J5 150 []=o3 at wf ht3 ⊢;have sn:=(S3.trans s6).trans (ae.new (o:=.tup [.str "rooms",oV o3]) ht3);have e4:=sn _ _ e3;have g1:=sn _ _ g1;have g2:=sn _ _ g2;have g3:upd H6 t3 (.tup [.str "rooms",oV o3]) t3=some (.tup [.str "rooms",oV o3]):=aa;have T4:=T3.trans sn;generalize upd H6 t3 (.tup [.str "rooms",oV o3])=H7 at e4 g1 g2 g3 T4 sn ⊢;refine⟨w,_,_,rfl,rfl,e4,(by show 2<aj;decide),?_⟩;have T5:ae H (upd H7 w (.lst ([.ref t1,.ref t2]++[.ref t3]))):=fun b o q=>by rw[ai (ah q hwH)];exact T4 _ _ q
 have e5:upd H7 w (.lst ([.ref t1,.ref t2]++[.ref t3])) w=some (.lst [.ref t1,.ref t2,.ref t3]):=aa;have g1:=nw (o:=.lst ([.ref t1,.ref t2]++[.ref t3])) e4 g1;have g2:=nw (o:=.lst ([.ref t1,.ref t2]++[.ref t3])) e4 g2;have g3:=nw (o:=.lst ([.ref t1,.ref t2]++[.ref t3])) e4 g3;generalize upd H7 w (.lst ([.ref t1,.ref t2]++[.ref t3]))=H8 at T5 e5 g1 g2 g3 ⊢;refine⟨_,rfl,.inl ⟨rfl,_,aA.of e5⟩,?_⟩;refine⟨_,rfl,_,rfl,_,rfl,_,rfl,l1,l2,l3,l4,ts,J0,J4,J5,ds,rfl,L.same T5,F,G,fun H9 s9=>⟨(by show 2<=aj;decide),fun t4 ht4=>?_⟩⟩;generalize hfw:t6 J5 (bz J0 J4) 0 [] ds=o4 at wf ht4 ⊢;have sn:=s9.trans (ae.new (o:=.tup [.str "doors",oV o4]) ht4);have e6:=sn _ _ e5;have g1:=sn _ _ g1;have g2:=sn _ _ g2;have g3:=sn _ _ g3;have g4:upd H9 t4 (.tup [.str "doors",oV o4]) t4=some (.tup [.str "doors",oV o4]):=aa;have T6:=T5.trans sn;generalize upd H9 t4 (.tup [.str "doors",oV o4])=H10 at e6 g1 g2 g3 g4 T6 sn ⊢;refine⟨w,_,_,rfl,rfl,e6,(by show 3<aj;decide),?_⟩;have T7:ae H (upd H10 w (.lst ([.ref t1,.ref t2,.ref t3]++[.ref t4]))):=fun b o q=>by rw[ai (ah q hwH)];exact T6 _ _ q
 have e7:upd H10 w (.lst ([.ref t1,.ref t2,.ref t3]++[.ref t4])) w=some (.lst ([t1,t2,t3,t4].map V.ref)):=aa;have P:Paired (PnAt (upd H10 w (.lst ([.ref t1,.ref t2,.ref t3]++[.ref t4])))) [t1,t2,t3,t4] [("asks",o1),("says",o2),("rooms",o3),("doors",o4)] :=
  .cons (nw e6 g1) (.cons (nw e6 g2) (.cons (nw e6 g3) (.cons (nw e6 g4) .nil)))
 generalize upd H10 w (.lst ([.ref t1,.ref t2,.ref t3]++[.ref t4]))=H11 at T7 e7 P ⊢;generalize hos:([("asks",o1),("says",o2),("rooms",o3),("doors",o4)]:List (Str×Option Nat))=os at P wf;have los:os.length=4:=by rw[<-hos];rfl
 generalize hws:[t1,t2,t3,t4]=ws at P e7;have lws:ws.length=4:=by rw[<-hws];rfl
 clear hos hws;refine⟨_,rfl,w,rfl,⟨_,aA.of e7⟩,?_⟩;refine gR (xs:=ws.map V.ref) (fun i σ H'=>∃x y,σ=[some (.ref l1),some (.ref l2),some (.ref l3),some (.ref l4),some (.ref w),x,y]/\ae H11 H'/\wR (os.drop i)=wR os) ⟨_,_,rfl,ae.refl _,rfl⟩ (fun i σ H' _ ⟨_,_,_,S,_⟩=>aA.of (S _ _ e7)) ?_ ?_
 ·rintro i x σ H' hi ⟨x5,x6,rfl,S,hf⟩;obtain⟨t,ht,rfl⟩:=dH hi;obtain⟨⟨p,on⟩,hpo,pn⟩:=Paired.getL P ht;have pn:H' t=some (.tup [.str p,oV on]):=S _ _ pn;have hil:i<os.length:=(db.mp hpo).1;have ed:os.drop i=(p,on)::os.drop (i+1):=by
   rw[jJ hil];congr 1;exact(db.mp hpo).2
  rw[ed]at hf;refine⟨t,_,rfl,b_.of pn,rfl,_,_,rfl,_,_,rfl,rfl,?_⟩;refine⟨_,rfl,_,rfl,?_⟩;cases on with
  |none =>
   have en:(!decide (oV none=V.non))=false:=by rw[zzr1 (show oV none=V.non from rfl)];rfl
   rw[en];exact bu ⟨_,_,rfl,S,hf⟩
  |some n =>
   have en:(!decide (oV (some n)=V.non))=true:=by rw[zzr0 (show ¬oV (some n)=V.non from fun z=>by cases z)];rfl
   rw[en];refine bE ⟨_,rfl,_,rfl,(by show 2<=aj;decide),fun t' ht'=>kx p n (v.wrong (wf.trans hf.symm)) t' _ aa ((T7.trans S).trans (ae.new ht'))⟩
 ·rintro σ H' ⟨x,y,rfl,S,hf⟩;have S:=T7.trans S;rw[am,lws,<-los,kA]at hf;obtain⟨m,qf,fq,rfl⟩:=v.right (wf.trans hf.symm);refine⟨_,rfl,_,rfl,l3,l4,ts,J0,J4,J5,ds,rfl,S _ _ L.a3,S _ _ L.a4,(L.same S).ds,m,fun q' H'' f' S''=>?_⟩;obtain rfl:=fq.uniq f';have S:=S.trans S'';refine⟨_,rfl,_,rfl,?_⟩;cases qf with
  |none =>
   have en:(!decide (oV none=V.non))=false:=by rw[zzr1 (show oV none=V.non from rfl)];rfl
   rw[en];refine bu ⟨_,rfl,_,rfl,_,rfl,_,rfl,(by show 4<=aj;decide),fun r hr=>k rfl r _ aa (S.trans (ae.new hr))⟩
  |some n =>
   have en:(!decide (oV (some n)=V.non))=true:=by rw[zzr0 (show ¬oV (some n)=V.non from fun z=>by cases z)];rfl
   rw[en];exact bE ⟨_,rfl,(by show 2<=aj;decide),fun t' ht'=>kx _ n rfl t' _ aa (S.trans (ae.new ht'))⟩
theorem pf{K:Za}{n:Nat}{x y:V}{H:Hp}{Q:VK}{E:XK}{d:DT}(h1:DR K H d x)(h2:DR K H d y)(hd:d.depth<=n)(n8:n<=8)(sm:DT.sm d=true)(k:∀H',ae H H'->Q (.bl true) H'):dF K n [x,y] H Q E:=by
 refine⟨[cR K d,cR K d],[],fun r _=>r=.im (bv true),⟨H,H,fun _=>0,fun _=>False⟩,rfl,rfl,(fun _ _ e=>nomatch e),⟨ae.refl _,(fun _ e=>e.elim),(fun _ _ e=>nomatch e),(fun _ _ _ _ e=>nomatch e),ix⟩,.cons h1 (.cons h2 .nil),⟨rfl,d,d,rfl,hd,hd,n8,sm,?_⟩,?_⟩
 ·rw[zzr1 rfl]
 ·intro r v h' m' e w f o;subst e;rw[show v=.bl true from o];exact k _ fun a o q=>w.hh a o q (fun z=>z) (fun z=>by simp[IG]at z)
theorem eo.ok{J0 J4 J5:Zb}{ds:List aq}(v:eo J0 J4 J5 ds none)(z:ds.length<=1000):cg J0 J4 J5 ds:=by
 rcases v with⟨p,n,e,_⟩|⟨m,q,f,e⟩
 ·cases e
 ·cases q with
  |some n=>cases e
  |none =>
   rcases f with⟨_,f⟩|⟨n,r,e,_⟩
   ·exact m.ok z f
   ·cases e
def Jd(K:Za)(f:Str):TS:=ax (eE (zL K (ba V0 V1))) (Be K V0 V1 f)
def IH(a:Addr)(H H':Hp):Prop:=∀b o,H b=some o->b≠a->H' b=some o
inductive pd(Cx:Addr)(f:Str)(vs:List V)(H:Hp)(Q:VK)(E:XK):Prop
 |mk (a:Addr) (x:V):(vs=[.ref a,x])->(H a=some (.ext (cT a Cx none)))->(∀d H',H' a=some (.ext (cT a Cx (some d)))->H' d=some (.ext (iM d [(f,x)]))->d≠a->IH a H H'->Q .non H')->pd Cx f vs H Q E
theorem HM{K:Za}{Cx:Addr}{f n0 n1:Str}(c:j3 K Cx)(nf:c9 K Cx f){vs:List V}{H:Hp}{Q:VK}{E:XK}(h:pd Cx f vs H Q E):Jd K f (bT Q) (start [n0,n1] vs) H:=by
 obtain⟨a,x,rfl,ha,k⟩:=h;refine⟨_,rfl,_,rfl,a,Cx,none,[x],rfl,ha,c,(by show 1<=aj;decide),?_⟩;refine⟨_,rfl,_,rfl,a,Cx,rfl,c,nf,.inl ⟨ha,fun d hd nd=>?_⟩⟩;refine k d _ aa (by rw[ai nd,aa]) nd fun b o hb na=>?_;rw[ai na,ai (fun z=>by rw[z,hd]at hb;cases hb)];exact hb

open Classical in
theorem Gm{K:Za}{H:Hp}{l m:Addr}{a b:Zb}{Q:VK}(hl:H l=some (.lst (a.map V.str)))(hm:H m=some (.lst (b.map V.str)))(k:Q (.bl (!decide (a=b))) H):F0 K (.ref l) (.ref m) H Q:=by
 refine⟨.s (a.map aS),.s (b.map aS),tF (aA.of hl),tF (aA.of hm),?_,?_,?_⟩
 ·show DT.depths _+1<=8;rw[bY];decide
 ·show DT.depths _+1<=8;rw[bY];decide
 ·rw[decide_eq_decide.mpr (show DT.s (a.map aS)=DT.s (b.map aS)↔a=b from⟨fun h=>gP (by injection h),fun h=>by rw[h]⟩)];exact k
def Cc(K:Za):TS :=
 aZ (iC (aK Cr (dD (cV K) (aE V0)) (tC (.int 1))) (aK qJ (aK (c6 K) V0 (tC (.int 0))) V1))
def CZ:List Str:=["words","head"]
def Cd(K:Za):TS :=
 ax (cG (bx (aK qJ (dD (cV K) (aE V0)) (tC (.int 3)))) (aZ (aK qJ (aK (c6 K) V0 (tC (.int 1))) (tC (.str "still")))) (bo))
 (aZ (iC (aK qJ (dD (cV K) (aE V0)) (tC (.int 4))) (aK (nR K false) (aK (c6 K) V0 (tC (.int 1))) (dZ (ba (tC (.str "ask")) (tC (.str "say")))))))
def C0:List Str:=["words"]
def Dp(K:Za)(a_HEADS:Addr)(sp_is_head:Sp)(sp_is_door:Sp):TS :=
 ax (cG (bx (aK (nR K false) (tC (.str "")) V0)) (aZ (tC (.bl false))) (bo))
 (aZ (tIf (bx (aK zZ V1 (dD (cV K) (aE (tC (.ref a_HEADS)))))) (aR sp_is_head (ba V0 (aK (ym K) (tC (.ref a_HEADS)) V1))) (aR sp_is_door (aE V0))))
def Ft:List Str:=["words","number"]
def y0:List Str:=["ended","rest","number","words"]
def Cf(K:Za):TS :=
 aZ (dZ (az (aK (c6 K) V0 (tC (.int 0))) (az (dD (G0 K) (az (mZ (jj K) V0 (cy (tC (.int 1))) (cy (HD (rU fun i=>.int (-i)) (tC (.int 1))))) bF)) (aE (aK (c6 K) V0 (HD (rU fun i=>.int (-i)) (tC (.int 1))))))))
def C2:List Str:=["words"]
def IP:List Str:=["text","lines","ended","asks","says","rooms"]
def qP:List Str:=["given","found","wrong","e"]
def jn(c:Nat):List (List Nat)->List Nat
 |[]=>[]
 |[a]=>a
 |a::b::l=>a++c::jn c (b::l)
theorem yB(c:Nat):∀ys:List Str,((⟨#[c]⟩:Str).join ys).cps.toList=jn c (ys.map (·.cps.toList))
 |[]=>rfl
 |[a]=>rfl
 |a::b::l=>by
  show(a++(⟨#[c]⟩:Str)++(⟨#[c]⟩:Str).join (b::l)).cps.toList=_;rw[cU,cU,yB c (b::l)];show a.cps.toList++[c]++_=a.cps.toList++c::_;rw[dA]
  rfl
theorem Im(c:Nat)(y p:List Nat):∀l,jn c ((y++c::p)::l)=y++c::jn c (p::l)
 |[]=>rfl
 |a::l=>by show(y++c::p)++c::jn c (a::l)=y++c::(p++c::jn c (a::l));simp
theorem yH(c:Nat):∀ys:List Str,(EW ⟨#[c]⟩ ys).cps.toList=jn c (ys.map (·.cps.toList))
 |[]=>rfl
 |y::ys=>by
  show(ys.foldl (fun(a p:Str)=>a++(⟨#[c]⟩:Str)++p) y).cps.toList=_
  induction ys generalizing y with
  |nil=>rfl
  |cons p ps ih =>
   rw[oA,ih,bf,bf,bf,cU,cU,dA];show jn c ((y.cps.toList++c::p.cps.toList)::_)=_;rw[Im]
   rfl
theorem kL(x y:Str):bL x y≠[]:=fun h=>by
 have:=len_of_split (l:=(bL x y).map fun s=>(s,0)) (x:=x) (y:=y) (by rw[dR];exact List.map_id _);rw[h]at this;exact absurd this (by decide)
theorem DC:(" ":Str)=⟨#[32]⟩:=by decide +kernel
theorem EB:("\n":Str)=⟨#[10]⟩:=by decide +kernel
theorem EN(c:Nat):∀ls:List (List Nat),jn c (ls++[[]])=(ls.map fun a=>a++[c]).flatten
 |[]=>rfl
 |[a]=>by show a++c::jn c [[]]=_;simp[jn]
 |a::b::l=>by
  show a++c::jn c (b::l++[[]])=_;rw[EN c (b::l)];simp
theorem uL(rows:List (List Str)):(dj rows).cps.toList=(rows.map fun r=>(gh r).cps.toList++[10]).flatten:=by
 have:∀(rows:List (List Str)) (acc:Str),(rows.foldl (fun acc r=>acc++(gh r++"\n")) acc).cps.toList=acc.cps.toList++(rows.map fun r=>(gh r).cps.toList++[10]).flatten:=by
  intro rows
  induction rows with
  |nil=>intro acc;simp
  |cons r rows ih=>intro acc;rw[oA,ih,cU,cU,EB];simp
 have h:=this rows "";rw[show("":Str).cps.toList=[]from rfl,List.nil_append]at h;exact h
theorem Bx{c d:Nat}(cd:c≠d):∀{ls:List (List Nat)},(∀a∈ls,c∉a)->c∉jn d ls
 |[],_=>by simp[jn]
 |[a],h=>h a cp
 |a::b::l,h=>by
  show c∉a++d::jn d (b::l);rw[bJ,bw];rintro(z|z|z)
  ·exact h a cp z
  ·exact cd z
  ·exact Bx cd (fun x hx=>h x (cj _ hx)) z
structure BS(w:Str):Prop where
 ne:w≠""
 sp:32∉w.cps.toList
 nl:10∉w.cps.toList
theorem j4.pl{w:Str}(h:j4 w):BS w:=by
 refine⟨fun z=>?_,fun z=>?_,fun z=>?_⟩
 ·have:=h.lo;rw[z]at this;exact absurd this (by decide)
 ·exact absurd (h.al _ z) (by unfold pF;omega)
 ·exact absurd (h.al _ z) (by unfold pF;omega)
theorem wt:∀w∈([("asks":Str),"says","rooms","ask","say","still"]:Zb),BS w:=by
 intro w hw;have h1:∀w∈([("asks":Str),"says","rooms","ask","say","still"]:Zb),w≠""/\32∉w.cps.toList/\10∉w.cps.toList:=by decide +kernel
 exact⟨(h1 w hw).1,(h1 w hw).2.1,(h1 w hw).2.2⟩
theorem cg.pl{J0 J4 J5:Zb}{ds:List aq}(m:cg J0 J4 J5 ds):∀r∈bt J0 J4 J5 ds,∀w∈r,BS w:=by
 intro r hr w hw;have nm:∀{ws:Zb},eJ ws->∀{h:Str},h∈([("asks":Str),"says","rooms","ask","say","still"]:Zb)->w∈h::ws->BS w:=fun ok h hh hw=>by
  rcases bw.mp hw with e|e
  ·rw[e];exact wt _ hh
  ·exact(ok.2 w e).pl
 rcases bJ.mp hr with h|h
 ·unfold aU at h;simp only[bw,jh,or_false]at h;rcases h with rfl|rfl|rfl
  ·exact nm m.okA (by simp) hw
  ·exact nm m.okS (by simp) hw
  ·exact nm m.okR (by simp) hw
 ·obtain⟨d,hd,rfl⟩:=aO.mp h;have g:=m.good d hd;unfold aI at hw;rcases bJ.mp hw with hw|hw
  ·rcases bw.mp hw with e|e
   ·rw[e];exact(m.okR.2 _ g.a).pl
   ·rcases g.sg with⟨a,ha,q⟩|⟨a,ha,q⟩|q
    ·rw[q]at e;simp only[bw,jh,or_false]at e;rcases e with rfl|rfl
     ·exact wt _ (by simp)
     ·exact(m.okA.2 _ ha).pl
    ·rw[q]at e;simp only[bw,jh,or_false]at e;rcases e with rfl|rfl
     ·exact wt _ (by simp)
     ·exact(m.okS.2 _ ha).pl
    ·rw[q]at e;have:w="still":=by simpa[aG]using e
     rw[this];exact wt _ (by simp)
  ·have:w=d.b:=by simpa using hw
   rw[this];exact(m.okR.2 _ g.b).pl
theorem cg.rows0{J0 J4 J5:Zb}{ds:List aq}:∀r∈bt J0 J4 J5 ds,r≠[]:=by
 intro r hr;rcases bJ.mp hr with h|h
 ·unfold aU at h;simp only[bw,jh,or_false]at h;rcases h with rfl|rfl|rfl<;>simp
 ·obtain⟨d,hd,rfl⟩:=aO.mp h;simp[aI]
def eZ:List Str:=[("asks":Str),"says","rooms"]
abbrev hU(H:Hp)(us:Ze)(rows:List (List Str)):Prop:=Paired (fun u r=>H u=some (.lst (r.map V.str))) us rows
theorem hU.same{H H':Hp}{us:Ze}{rows:List (List Str)}(h:hU H us rows)(S:ae H H'):hU H' us rows:=Paired.mapP h fun _ _ e=>S _ _ e
inductive lL(vs:List V)(H:Hp)(Q:VK)(E:XK):Prop
 |mk (l:Addr) (d:aq):(vs=[.ref l])->(H l=some (.lst ((aI d).map V.str)))->(d.sg.length<=1000)->(∀t H',eU H' t d->ae H H'->Q (.ref t) H')->lL vs H Q E
theorem GF(d:aq):df ((aI d).map V.str) (some 1) (some (-1))=d.sg.map V.str:=by
 unfold df aI;have h1:(((d.a::d.sg++[d.b]:Zb).map V.str).length)=d.sg.length+2:=by simp
 have h2:HT.sIx (d.sg.length+2) 0 (some 1)=1:=by unfold HT.sIx;simp
 have h3:HT.sIx (d.sg.length+2) (d.sg.length+2) (some (-1))=d.sg.length+1:=by unfold HT.sIx;simp;omega
 rw[h1,h2,h3];simp
theorem Cp{K:Za}{vs:List V}{H:Hp}{Q:VK}{E:XK}(h:lL vs H Q E):Cf K (bT Q) (start C2 vs) H:=by
 obtain⟨l,d,rfl,hl,hz,k⟩:=h;refine⟨_,rfl,l,_,0,.str d.a,rfl,rfl,aA.of hl,cf (j:=0) rfl,?_⟩;refine⟨_,rfl,_,rfl,_,rfl,_,rfl,l,_,rfl,aA.of hl,fun q hq=>?_⟩;rw[GF];have S1:ae H (upd H q (.lst (d.sg.map V.str))):=ae.new hq;have e1:upd H q (.lst (d.sg.map V.str)) q=some (.lst (d.sg.map V.str)):=aa;generalize upd H q (.lst (d.sg.map V.str))=H1 at S1 e1 ⊢;refine⟨q,_,rfl,.inl ⟨aA.of e1,fun s hs=>?_⟩⟩;have S2:ae H (upd H1 s (.tup (d.sg.map V.str))):=S1.trans (ae.new hs);have e2:upd H1 s (.tup (d.sg.map V.str)) s=some (.tup (d.sg.map V.str)):=aa;generalize upd H1 s (.tup (d.sg.map V.str))=H2 at S2 e2 ⊢;refine⟨_,rfl,_,rfl,l,_,-1,.str d.b,rfl,rfl,aA.of (S2 _ _ hl),?_,(by show 3<=aj;decide),fun t ht=>?_⟩
 ·unfold aI;rw[aQ];exact tO _ _
 ·exact k t _ ⟨s,aa,kp e2 ht⟩ (S2.trans (ae.new ht))
theorem yS(xs:List V)(v:V):df (xs++[v]) none (some (-1))=xs:=by
 unfold df;have h1:(xs++[v]).length=xs.length+1:=by simp
 have h3:HT.sIx (xs.length+1) (xs.length+1) (some (-1))=xs.length:=by unfold HT.sIx;simp;omega
 rw[h1,h3];show((xs++[v]).drop (HT.sIx _ 0 none)).take (xs.length-HT.sIx _ 0 none)=xs;have h2:HT.sIx (xs.length+1) 0 none=0:=rfl;rw[h2];simp
abbrev qt(f:Addr)(H:Hp)(us:Ze)(rows:List (List Str)):Prop:=Paired (fun u r=>u≠f/\H u=some (.lst (r.map V.str))) us rows
theorem qt.at_{f:Addr}{H:Hp}{us:Ze}{rows:List (List Str)}(h:qt f H us rows):hU H us rows:=Paired.mapP h fun _ _ e=>e.2
theorem qt.add{f:Addr}{H H':Hp}{us:Ze}{rows:List (List Str)}{u:Addr}{r:Zb}{o:HO}(h:qt f H us rows)(S:ae H H')(nu:u≠f)(hu:H' u=some (.lst (r.map V.str))):qt f (upd H' f o) (us++[u]) (rows++[r]) :=
 Paired.app (Paired.mapP h fun _ _ e=>⟨e.1,by rw[ai e.1];exact S _ _ e.2⟩) (.cons ⟨nu,by rw[ai nu];exact hu⟩ .nil)
theorem yf(J0 J4 J5:Zb)(ds:List aq):(bt J0 J4 J5 ds).length=3+ds.length:=by
 unfold bt aU;rw[bp,am];rfl
theorem sJ{J0 J4 J5:Zb}{ds:List aq}{H:Hp}{us:Ze}(R:hU H us (bt J0 J4 J5 ds)):∃u0 u1 u2 vs,us=u0::u1::u2::vs/\H u0=some (.lst ((("asks":Str)::J0).map V.str))/\H u1=some (.lst ((("says":Str)::J4).map V.str))/\H u2=some (.lst ((("rooms":Str)::J5).map V.str))/\hU H vs (ds.map aI):=by
 cases R with
 |cons h0 R=>cases R with
  |cons h1 R=>cases R with
   |cons h2 R=>exact⟨_,_,_,_,rfl,h0,h1,h2,R⟩
inductive nF(C:Addr)(vs:List V)(H:Hp)(Q:VK)(E:XK):Prop
 |mk (J0 J4 J5:Zb) (ds:List aq):(vs=[.str (dj (bt J0 J4 J5 ds))])->(cg J0 J4 J5 ds)->(∀(x:Addr) (H':Hp),fx C H' x J0 J4 J5 ds->ae H H'->Q (.ref x) H')->nF C vs H Q E
theorem FT{K:Za}{C x:Addr}{J0 J4 J5:Zb}{ds:List aq}{H:Hp}{Q:VK}{E:XK}(M:fx C H x J0 J4 J5 ds)(k:∀H',ae H H'->Q (.str (dj (bt J0 J4 J5 ds))) H'):iH K C [.ref x] H Q E:=by
 refine⟨[.im (mv C J0 J4 J5 ds)],[],fun r _=>r=cR K (aS (dj (bt J0 J4 J5 ds))),⟨H,H,fun _=>0,fun _=>False⟩,rfl,rfl,(fun _ _ e=>nomatch e),⟨ae.refl _,(fun _ e=>e.elim),(fun _ _ e=>nomatch e),(fun _ _ _ _ e=>nomatch e),ix⟩,.cons ⟨x,rfl,M⟩ .nil,⟨rfl,J0,J4,J5,ds,M.ok,rfl,rfl⟩,?_⟩;intro r v h' m' e w f o;subst e;have o:DR K m'.G (aS (dj (bt J0 J4 J5 ds))) v:=o;unfold aS DR at o;rw[o];exact k _ fun a o q=>w.hh a o q (fun z=>z) (fun z=>by simp[IG]at z)
theorem B7{K:Za}{t l1 l2 l3 l4:Addr}{ts:Ze}{J0 J4 J5:Zb}{ds:List aq}{H:Hp}{Q:VK}{E:XK}(T:IJ H t l1 l2 l3 l4 ts J0 J4 J5 ds)(m:cg J0 J4 J5 ds)(k:∀H',ae H H'->Q (.str (dj (bt J0 J4 J5 ds))) H'):jP K [.ref t] H Q E:=by
 refine⟨[cR K (GS J0 J4 J5 ds)],[],fun r _=>r=cR K (aS (dj (bt J0 J4 J5 ds))),⟨H,H,fun _=>0,fun _=>False⟩,rfl,rfl,(fun _ _ e=>nomatch e),⟨ae.refl _,(fun _ e=>e.elim),(fun _ _ e=>nomatch e),(fun _ _ _ _ e=>nomatch e),ix⟩,.cons (Gw T) .nil,⟨rfl,J0,J4,J5,ds,m,rfl,rfl⟩,?_⟩;intro r v h' m' e w f o;subst e;have o:DR K m'.G (aS (dj (bt J0 J4 J5 ds))) v:=o;unfold aS DR at o;rw[o];exact k _ fun a o q=>w.hh a o q (fun z=>z) (fun z=>by simp[IG]at z)
theorem DE{K:Za}{x:Str}{H:Hp}{Q:VK}{E:XK}(k:∀H',ae H H'->Q (.bl true) H'):dF K 4 [.str x,.str x] H Q E :=
 pf (d:=aS x) (by unfold aS DR;rfl) (by unfold aS DR;rfl) (bR _) (by decide) rfl k
def vU(K:Za)(a_HEADS:Addr)(C_NoText:Addr)(sp_NoText_init:Sp)(sp_is_row:Sp):(L2.St->XK)->TS :=
 uM (GY (lh K (aE V0)) (ic K 2 (be U2 (be U3 (g_)))) (HF (sw (tB (aR sp_is_row (ba V3 V2)))) (lG C_NoText sp_NoText_init (aE V2)) (zB bo)))
 (HF (C8 (bx (aK HS V1 (tC (.str "")))) (bx (aK zZ (dD (cV K) (aE V0)) (dD (cV K) (aE (tC (.ref a_HEADS))))))) (lG C_NoText sp_NoText_init (aE (dD (cV K) (aE V0)))) (zB bo))
def FO(K:Za)(a_HEADS:Addr)(sp_door_of:Sp)(C_Machine:Addr)(sp_Machine_init:Sp)(sp_need_rows:Sp):(L2.St->XK)->TS :=
 uM (zB (aV (uf K "str" sL V0 (aE (tC (.str "\n")))) U1))
 (uM (zB (aV (dQ 1 [] (dq K (mZ (jj K) V1 (bI) (cy (HD (rU fun i=>.int (-i)) (tC (.int 1)))))) U0 (ju) (uf K "str" sL V0 (aE (tC (.str " "))))) U2))
 (uM (Du (fun W=>qi sp_need_rows [] W (ba V2 (aK (c6 K) V1 (HD (rU fun i=>.int (-i)) (tC (.int 1)))))))
 (uM (zB (aV (dQ 1 [] (dq K (mZ (jj K) V2 (bI) (cy (dD (cV K) (aE (tC (.ref a_HEADS))))))) U0 (ju) (mZ (jj K) V0 (cy (tC (.int 1))) (bI))) (Jy K 3 (be U3 (be U4 (be U5 (g_)))))))
 (GX (fun W=>Dr C_Machine sp_Machine_init [] W (az V3 (az V4 (az V5 (az (dQ 1 [] (dq K (mZ (jj K) V2 (cy (dD (cV K) (aE (tC (.ref a_HEADS))))) (bI))) U0 (ju) (aR sp_door_of (aE V0))) bF)))))))))
def ss(K:Za):TS :=
 ax (cG (bx (aK (F0 K) (dQ 1 [] (dq K V1) U0 (bx (aK qJ V0 (tC (.str "")))) V0) (eI (bF)))) (aZ (tC (.bl false))) (bo))
 (ax (cG (bx (aK zZ V0 (tC (.int 3)))) (aZ (iC (aK qJ (aK (c6 K) V1 (tC (.int 0))) (aK (c6 K) (eI (gH (tC (.str "asks")) (tC (.str "says")) (tC (.str "rooms")))) V0)) (aK Cr (dD (cV K) (aE V1)) (tC (.int 1))))) (bo))
 (ax (cG (bx (aK qJ (dD (cV K) (aE V1)) (tC (.int 3)))) (aZ (aK qJ (aK (c6 K) V1 (tC (.int 1))) (tC (.str "still")))) (bo))
 (aZ (iC (aK qJ (dD (cV K) (aE V1)) (tC (.int 4))) (HE (aK qJ (aK (c6 K) V1 (tC (.int 1))) (tC (.str "ask"))) (aK qJ (aK (c6 K) V1 (tC (.int 1))) (tC (.str "say"))))))))
def tS:List Str:=["number","words"]
def sr(K:Za)(sp_law_due:Sp)(sp_law_good_row:Sp):TS :=
 ax (aV (uf K "str" sL V0 (aE (tC (.str "\n")))) U1)
 (ax (aV (eI (bF)) U2)
 (ax (fJ (lh K (az (mZ (jj K) V1 (bI) (cy (HD (rU fun i=>.int (-i)) (tC (.int 1))))) bF)) (ic K 2 (be U3 (be U4 (g_)))) (ax (aV (uf K "str" sL V4 (aE (tC (.str " ")))) U5)
 (ax (cG (sw (tB (aR sp_law_good_row (ba V3 V5)))) (aZ (dZ (ba (tC (.str "text")) V3))) (bo))
 (eE (uf K "list" fM V2 (aE V5))))))
 (ax (cG (C8 (bx (aK zZ (dD (cV K) (aE V2)) (tC (.int 3)))) (bx (aK HS (aK (c6 K) V1 (HD (rU fun i=>.int (-i)) (tC (.int 1)))) (tC (.str ""))))) (aZ (dZ (ba (tC (.str "text")) (dD (cV K) (aE V2))))) (bo))
 (ax (aV (dQ 1 [] (dq K (mZ (jj K) V2 (cy (tC (.int 3))) (bI))) U0 (ju) (dZ (az (aK (c6 K) V0 (tC (.int 0))) (az (dD (G0 K) (az (mZ (jj K) V0 (cy (tC (.int 1))) (cy (aK G1 (dD (cV K) (aE V0)) (tC (.int 1))))) bF)) (aE (aK (c6 K) V0 (aK G1 (dD (cV K) (aE V0)) (tC (.int 1))))))))) U6)
 (aZ (aR sp_law_due (az (mZ (jj K) (aK (c6 K) V2 (tC (.int 0))) (cy (tC (.int 1))) (bI)) (gH (mZ (jj K) (aK (c6 K) V2 (tC (.int 1))) (cy (tC (.int 1))) (bI)) (mZ (jj K) (aK (c6 K) V2 (tC (.int 2))) (cy (tC (.int 1))) (bI)) V6))))))))
def tR:List Str:=["given","lines","found","number","line","words","doors"]
def oZ(K:Za)(C_Machine:Addr)(sp_Machine_doors:Sp)(sp_Machine_rooms:Sp)(sp_Machine_says:Sp)(sp_Machine_asks:Sp)(nF:Sp)(C_NoMachine:Addr)(C_NoText:Addr):TS :=
 ax (aV (tC .non) U1)
 (ax (aV (tC .non) U2)
 (ax (Je (GW (fun W=>qi nF [] W (aE V0)) 1) (HG K C_NoText 3 (aV (dZ (ba (tC (.str "text")) (A9 K V3 "number"))) U2) (HG K C_NoMachine 3 (aV (dZ (ba (A9 K V3 "part") (A9 K V3 "number"))) U2) (Jf))))
 (ax (cG (tB (Dt V1)) (aZ V2) (bo))
 (aZ (eI (az (jv C_Machine "asks" sp_Machine_asks [] E0 V1 bF) (gH (jv C_Machine "says" sp_Machine_says [] E0 V1 bF) (jv C_Machine "rooms" sp_Machine_rooms [] E0 V1 bF) (jv C_Machine "doors" sp_Machine_doors [] E0 V1 bF))))))))
def qx(K:Za)(sp_law_take:Sp)(sp_law_letters:Sp):TS :=
 ax (cG (bx (aK qJ (aR sp_law_take (ba V0 (tC (.int 2)))) (tC (.int 0)))) (aZ (aK z0 (tC (.str " \nabz")) (aR sp_law_take (ba V0 (tC (.int 5)))))) (bo))
 (ax (aV (tC (.str " !\"#$&'()*+,-./0123456789:;<=>?@ABCDEFGHIJKLMNOPQRSTUVWXYZ[\\]^_{|}~\n\t")) U1)
 (ax (aV (aK fC V1 (aR sp_law_letters bF)) U1)
 (aZ (aK z0 V1 (aR sp_law_take (ba V0 (dD (cV K) (aE V1))))))))
def qO:List Str:=["pen","some"]
def qy(K:Za)(sp_law_some_sign:Sp)(sp_law_take:Sp):TS :=
 ax (aV (aR sp_law_take (ba V0 (aK eN (dD (cV K) (aE V1)) (tC (.int 1))))) U2)
 (ax (aV (aR sp_law_take (ba V0 (tC (.int 3)))) U3)
 (ax (cG (bx (aK qJ V3 (tC (.int 0)))) (aZ (aK fC (mZ ul V1 (bI) (cy V2)) (mZ ul V1 (cy (aK eN V2 (tC (.int 1)))) (bI)))) (bo))
 (ax (aV (aR sp_law_some_sign (aE V0)) U4)
 (ax (cG (bx (aK qJ V3 (tC (.int 1)))) (aZ (aK fC (aK fC (mZ ul V1 (bI) (cy V2)) V4) (mZ ul V1 (cy V2) (bI)))) (bo))
 (aZ (aK fC (aK fC (mZ ul V1 (bI) (cy V2)) V4) (mZ ul V1 (cy (aK eN V2 (tC (.int 1)))) (bI))))))))
def qQ:List Str:=["pen","given","at","way","sign"]
def FP(K:Za)(sp_law_same:Sp)(iH:Sp)(nF:Sp)(sp_law_read_told:Sp)(sp_law_read_due:Sp)(sp_law_take:Sp)(sp_law_bent_text:Sp)(sp_law_text_of:Sp)(sp_law_model:Sp)(sp_law_open:Sp):TS :=
 ax (aV (aR sp_law_open (aE V0)) U1)
 (ax (aV (aR sp_law_text_of (az (aR sp_law_model (az V1 (az (tC (.int 5)) (aE (aR sp_law_take (ba V1 (tC (.int 2)))))))) bF)) U2)
 (ax (cG (bx (aK qJ (aR sp_law_take (ba V1 (tC (.int 16)))) (tC (.int 0)))) (aV (tC (.str "")) U2) (bo))
 (ax (fJ (s_ (aE (aR sp_law_take (ba V1 (tC (.int 5)))))) U3 (aV (aR sp_law_bent_text (ba V1 V2)) U2))
 (ax (aV (aR sp_law_read_due (aE V2)) U4)
 (ax (cG (sw (tB (aR sp_law_same (ba (aR sp_law_read_told (aE V2)) V4)))) (aZ (tC (.bl false))) (bo))
 (ax (cG (tB (dD (nQ K) (ba V4 (tC (.ty "tuple"))))) (aZ (tC (.bl true))) (bo))
 (aZ (aR sp_law_same (ba (aR iH (aE (aR nF (aE V2)))) V2)))))))))
def BV:List Str:=["script","pen","given","turn","due"]
def Eb:List Str:=["script"]
def mx(w:Nat->Nat):Nat->List Nat->Nat
 |acc,[]=>acc
 |acc,c::cs=>if c=10 then max acc (mx w 0 cs)else mx w (acc+w c) cs
section
variable{w:Nat->Nat}
theorem qK{c acc:Nat}{cs:List Nat}(h:c=10):mx w acc (c::cs)=max acc (mx w 0 cs):=if_pos h
theorem pB{c acc:Nat}{cs:List Nat}(h:¬c=10):mx w acc (c::cs)=mx w (acc+w c) cs:=if_neg h
theorem z_(k:Nat):∀(xs:List Nat) (acc:Nat),mx w (acc+k) xs<=mx w acc xs+k
 |[],acc=>aN _
 |c::cs,acc=>by
  by_cases h:c=10
  ·rw[qK h,qK h];omega
  ·rw[pB h,pB h,show acc+k+w c=acc+w c+k by omega];exact z_ k cs (acc+w c)
theorem Bt(k:Nat):∀(xs:List Nat) (acc:Nat),mx w acc xs<=mx w (acc+k) xs
 |[],acc=>Nat.le_add_right _ _
 |c::cs,acc=>by
  by_cases h:c=10
  ·rw[qK h,qK h];omega
  ·rw[pB h,pB h,show acc+k+w c=acc+w c+k by omega];exact Bt k cs (acc+w c)
theorem EJ:∀(xs:List Nat) (acc:Nat),acc<=mx w acc xs
 |[],acc=>aN _
 |c::cs,acc=>by
  by_cases h:c=10
  ·rw[qK h];omega
  ·rw[pB h];have:=EJ cs (acc+w c);omega
theorem z9(b:List Nat):∀(a:List Nat) (acc:Nat),mx w acc (a++b)<=mx w acc a+mx w 0 b
 |[],acc=>by
  have:=z_ (w:=w) acc b 0;rw[Nat.zero_add]at this;show mx w acc b<=acc+mx w 0 b;omega
 |c::cs,acc=>by
  show mx w acc (c::(cs++b))<=_;by_cases h:c=10
  ·rw[qK h,qK h];have:=z9 b cs 0;omega
  ·rw[pB h,pB h];exact z9 b cs _
theorem wF(b:List Nat):∀(a:List Nat) (acc:Nat),mx w acc a<=mx w acc (a++b)
 |[],acc=>EJ b acc
 |c::cs,acc=>by
  show _<=mx w acc (c::(cs++b));by_cases h:c=10
  ·rw[qK h,qK h];have:=wF b cs 0;omega
  ·rw[pB h,pB h];exact wF b cs _
theorem nW(b:List Nat):∀(a:List Nat) (acc:Nat),mx w 0 b<=mx w acc (a++b)
 |[],acc=>by
  have:=Bt (w:=w) acc b 0;rw[Nat.zero_add]at this;exact this
 |c::cs,acc=>by
  show _<=mx w acc (c::(cs++b));by_cases h:c=10
  ·rw[qK h];have:=nW b cs 0;omega
  ·rw[pB h];exact nW b cs _
theorem Bu(h1:∀c,w c<=1)(c:Nat)(b:List Nat):mx w 0 (c::b)<=mx w 0 b+1:=by
 have:=h1 c;by_cases h:c=10
 ·rw[qK h];omega
 ·rw[pB h];have:=z_ (w:=w) (w c) b 0;omega
theorem wG{r:List Nat}:∀{a:List Nat}{acc:Nat},10∉a->mx w acc (a++10::r)=max (acc+(a.map w).sum) (mx w 0 r)
 |[],acc,_=>qK rfl
 |c::cs,acc,h=>by
  show mx w acc (c::(cs++10::r))=_;rw[pB (fun z=>h (by rw[z];exact cp)),wG fun z=>h (cj _ z),bf,oy,BY]
theorem EH:∀{a:List Nat}{acc:Nat},10∉a->mx w acc a=acc+(a.map w).sum
 |[],acc,_=>rfl
 |c::cs,acc,h=>by
  rw[pB (fun z=>h (by rw[z];exact cp)),EH fun z=>h (cj _ z),bf,oy,BY]
theorem EF:∀{ls:List (List Nat)}{a:List Nat},(∀a∈ls,10∉a)->a∈ls->(a.map w).sum<=mx w 0 (jn 10 ls)
 |[],_,_,h=>by cases h
 |[b],a,hf,h=>by
  have:a=b:=by simpa using h
  subst this;show _<=mx w 0 a;rw[EH (hf a cp),Nat.zero_add];exact aN _
 |b::b'::l,a,hf,h=>by
  show _<=mx w 0 (b++10::jn 10 (b'::l));rw[wG (hf b cp)];rcases bw.mp h with rfl|h
  ·omega
  ·have:=EF (fun x hx=>hf x (cj _ hx)) h;omega
theorem wE{L:Nat}:∀{ls:List (List Nat)},(∀a∈ls,10∉a/\(a.map w).sum<=L)->mx w 0 (ls.map fun a=>a++[10]).flatten<=L
 |[],_=>bR _
 |a::ls,h=>by
  have e:((a::ls).map fun a=>a++[10]).flatten=a++10::(ls.map fun a=>a++[10]).flatten:=by simp
  rw[e,wG (h a cp).1];have:=(h a cp).2;have:=wE (L:=L) fun x hx=>h x (cj _ hx);omega
end
theorem oj{c:Nat}:∀{ls:List (List Nat)},ls≠[]->(∀a∈ls,c∉a)->(jn c ls).count c+1=ls.length
 |[],h,_=>absurd rfl h
 |[a],_,h=>by show a.count c+1=1;rw[List.count_eq_zero_of_not_mem (h a cp)]
 |a::b::l,_,h=>by
  show(a++c::jn c (b::l)).count c+1=_;rw[rD,List.count_eq_zero_of_not_mem (h a cp),List.count_cons_self];have:=oj (by simp) fun x hx=>h x (cj _ hx);simp only[cw]at this ⊢;omega
theorem EL{c:Nat}:∀{ls:List (List Nat)}{a:List Nat},a∈ls->a.length<=(jn c ls).length
 |[],_,h=>by cases h
 |[b],a,h=>by have:a=b:=(by simpa using h);subst this;exact aN _
 |b::b'::l,a,h=>by
  show _<=(b++c::jn c (b'::l)).length;rw[bp,cw];rcases bw.mp h with rfl|h
  ·omega
  ·have:=EL (c:=c) h;omega
def Ev:Nat->Nat:=fun _=>1
def Am:Nat->Nat:=fun c=>if c=32 then 1 else 0
theorem Bb(a:List Nat):(a.map Ev).sum=a.length:=by
 induction a with
 |nil=>rfl
 |cons c cs ih=>rw[bf,oy,ih,cw];unfold Ev;omega
theorem Dz(a:List Nat):(a.map Am).sum=a.count 32:=by
 induction a with
 |nil=>rfl
 |cons c cs ih =>
  rw[bf,oy,ih,List.count_cons];unfold Am;by_cases h:c=32
  ·rw[if_pos h,if_pos (by rw[h];rfl)];omega
  ·rw[if_neg h,if_neg (by simpa using h)];omega
structure TB(L B N T:Nat)(xs:List Nat):Prop where
 len:mx Ev 0 xs<=L
 bl:mx Am 0 xs<=B
 nl:xs.count 10<=N
 all:xs.length<=T
theorem TB.mono{L B N T L' B' N' T':Nat}{xs:List Nat}(h:TB L B N T xs)(h1:L<=L')(h2:B<=B')(h3:N<=N')(h4:T<=T'):TB L' B' N' T' xs :=
 ⟨bj h.len h1,bj h.bl h2,bj h.nl h3,bj h.all h4⟩
def JP(xs ys:List Nat):Prop:=∃a b,xs=a++b/\(ys=a++b.drop 1∨∃c,ys=a++c::b∨ys=a++c::b.drop 1)
theorem TB.edit{L B N T:Nat}{xs ys:List Nat}(h:TB L B N T xs)(e:JP xs ys):TB (2 * L+1) (2 * B+1) (N+1) (T+1) ys:=by
 obtain⟨a,b,rfl,e⟩:=e;have h1:∀c,Ev c<=1:=fun _=>aN _;have h2:∀c,Am c<=1:=fun c=>by unfold Am;split<;>omega
 have dr:∀(w:Nat->Nat),mx w 0 (b.drop 1)<=mx w 0 b:=fun w=>by
  cases b with
  |nil=>exact aN _
  |cons c b=>exact nW b [c] 0
 have key:∀(w:Nat->Nat) (M:Nat) (b':List Nat),mx w 0 (a++b)<=M->mx w 0 b'<=mx w 0 b+1->mx w 0 (a++b')<=2 * M+1:=fun w M b' hm hb=>by
  have:=z9 (w:=w) b' a 0;have:=wF (w:=w) b a 0;have:=nW (w:=w) b a 0;omega
 have fin:∀b':List Nat,(∀w:Nat->Nat,(∀c,w c<=1)->mx w 0 b'<=mx w 0 b+1)->b'.count 10<=b.count 10+1->b'.length<=b.length+1->TB (2 * L+1) (2 * B+1) (N+1) (T+1) (a++b'):=fun b' q1 q2 q3=>by
  have n:=h.nl;have l:=h.all;rw[rD]at n;rw[bp]at l;exact⟨key _ _ _ h.len (q1 _ h1),key _ _ _ h.bl (q1 _ h2),by rw[rD];omega,by rw[bp];omega⟩
 have cd:(b.drop 1).count 10<=b.count 10:=(List.drop_sublist 1 b).count_le 10;have ld:(b.drop 1).length<=b.length:=by rw[fm];omega
 rcases e with rfl|⟨c,rfl|rfl⟩
 ·exact fin _ (fun w _=>Nat.le_succ_of_le (dr w)) (by omega) (by omega)
 ·exact fin _ (fun w hw=>Bu hw c b) (by rw[List.count_cons];split<;>omega) (by rw[cw];omega)
 ·exact fin _ (fun w hw=>by have:=Bu hw c (b.drop 1);have:=dr w;omega) (by rw[List.count_cons];split<;>omega) (by rw[cw];omega)
def cI(x:Str):List Str:=(bL x "\n").dropLast
def eM(x:Str):Str:=(bL x "\n").getLast (kL _ _)
def cX(x:Str):List (List Str):=(cI x).map fun l=>bL l " "
theorem fK(x:Str):bL x "\n"=cI x++[eM x]:=(List.dropLast_concat_getLast (kL _ _)).symm
theorem lU(x:Str)(c:Nat):x.cps.toList=jn c ((bL x ⟨#[c]⟩).map (·.cps.toList)):=by rw[<-yB,StrLaws.join_split]
theorem tq(x:Str)(c:Nat):∀a∈(bL x ⟨#[c]⟩).map (·.cps.toList),c∉a:=fun a ha=>by
 obtain⟨p,hp,rfl⟩:=aO.mp ha;exact StrLaws.split_free _ _ _ hp
theorem TB.lines{L B N T:Nat}{x:Str}(h:TB L B N T x.cps.toList):(bL x "\n").length<=N+1/\∀l∈bL x "\n",l.length<=L/\(bL l " ").length<=B+1/\∀w∈bL l " ",w.length<=L:=by
 have e:=lU x 10;have f:=tq x 10;have ne:(bL x ⟨#[10]⟩).map (·.cps.toList)≠[]:=fun z=>kL _ _ (rE.mp z);rw[EB];have hn:=h.nl;have h1:=h.len;have h2:=h.bl;rw[e]at hn h1 h2;refine⟨by have:=oj ne f;rw[am]at this;omega,fun l hl=>?_⟩;have hl':l.cps.toList∈(bL x ⟨#[10]⟩).map (·.cps.toList):=aO.mpr ⟨l,hl,rfl⟩;have q1:=EF (w:=Ev) f hl';have q2:=EF (w:=Am) f hl';rw[Bb,<-br]at q1;rw[Dz]at q2;have e2:=lU l 32;have f2:=tq l 32;have ne2:(bL l ⟨#[32]⟩).map (·.cps.toList)≠[]:=fun z=>kL _ _ (rE.mp z);rw[DC];refine⟨by omega,?_,fun w hw=>?_⟩
 ·have:=oj ne2 f2;rw[<-e2,am]at this;omega
 ·have:=EL (c:=32) (show w.cps.toList∈(bL l ⟨#[32]⟩).map (·.cps.toList)from aO.mpr ⟨w,hw,rfl⟩);rw[<-e2,<-br,<-br]at this;omega
theorem B9{x:Str}(h:eM x=""):dj (cX x)=x:=by
 refine lH ?_;rw[uL,lU x 10];have:bL x ⟨#[10]⟩=cI x++[("":Str)]:=by rw[<-EB,fK,h]
 rw[this,aQ,show([("":Str)]).map (·.cps.toList)=[[]]from rfl,EN,dR];unfold cX;rw[dR];congr 1;refine List.map_congr_left fun l _=>?_;show(gh (bL l " ")).cps.toList++[10]=l.cps.toList++[10];unfold gh;rw[DC,yH,<-lU]
def yQ(ws:Zb):Bool:=if ws.length=3 then decide (ws[1]?=some ("still":Str))else decide (ws.length=4/\(ws[1]?=some ("ask":Str)∨ws[1]?=some ("say":Str)))
def e_(n:Nat)(ws:Zb):Bool:=if("":Str)∈ws then false else if n<3 then decide (1<ws.length/\ws[0]?=eZ[n]?)else yQ ws
def cv:Nat->List (List Str)->Option Nat
 |_,[]=>none
 |n,r::rs=>if e_ n r=true then cv (n+1) rs else some n
inductive jR(vs:List V)(H:Hp)(Q:VK)(E:XK):Prop
 |mk (l:Addr) (h:Str) (ws:Zb):(vs=[.ref l,.str h])->(H l=some (.lst (ws.map V.str)))->(Q (.bl (decide (1<ws.length/\ws[0]?=some h))) H)->jR vs H Q E
theorem zW{K:Za}{vs:List V}{H:Hp}{Q:VK}{E:XK}(h:jR vs H Q E):Cc K (bT Q) (start CZ vs) H:=by
 obtain⟨l,h,ws,rfl,hl,k⟩:=h;refine⟨_,rfl,.inl ⟨l,_,rfl,.inl (aA.of hl),_,_,rfl,rfl,_,rfl,?_⟩⟩;rw[am];refine eA (fun q=>?_) (fun q=>?_)
 ·have q:(1:Int)<ws.length:=of_decide_eq_true q;cases ws with
  |nil=>exact absurd q (by decide)
  |cons w ws =>
   refine⟨_,rfl,l,_,0,_,rfl,rfl,aA.of hl,cf (j:=0) rfl,_,rfl,rfl,?_⟩;have:decide (1<(w::ws).length/\(w::ws)[0]?=some h)=decide (V.str w=V.str h):=decide_eq_decide.mpr ⟨fun z=>by have:=z.2;simp at this;rw[this],fun z=>⟨by omega,by injection z with z;rw[z];rfl⟩⟩;rw[<-this];exact k
 ·have q:¬(1:Int)<ws.length:=fun z=>q (zzr1 z);rw[zzr0 (fun z=>q (by have:=z.1;omega))]at k;exact k
inductive jS(vs:List V)(H:Hp)(Q:VK)(E:XK):Prop
 |mk (l:Addr) (ws:Zb):(vs=[.ref l])->(H l=some (.lst (ws.map V.str)))->(∀H',ae H H'->Q (.bl (yQ ws)) H')->jS vs H Q E
theorem wM{a b:Nat}:decide (V.int (a:Nat)=V.int (b:Nat))=decide (a=b):=decide_eq_decide.mpr ⟨fun h=>by injection h with h;omega,fun h=>by rw[h]⟩
theorem zX{K:Za}{vs:List V}{H:Hp}{Q:VK}{E:XK}(h:jS vs H Q E):Cd K (bT Q) (start C0 vs) H:=by
 obtain⟨l,ws,rfl,hl,k⟩:=h;unfold yQ at k;refine⟨_,rfl,.inl ⟨l,_,rfl,.inl (aA.of hl),rfl,_,rfl,?_⟩⟩;rw[am,show(V.int 3)=V.int (3:Nat)from rfl,wM];refine eA (fun q=>?_) (fun q=>?_)
 ·have q:ws.length=3:=of_decide_eq_true q;obtain⟨w,hw⟩:∃w,ws[1]?=some w:=⟨_,fh (by omega)⟩;refine⟨_,rfl,l,_,1,.str w,rfl,rfl,aA.of hl,cf (j:=1) (by rw[cb,hw];rfl),rfl,?_⟩;have:decide (V.str w=V.str ("still":Str))=decide (ws[1]?=some ("still":Str)):=decide_eq_decide.mpr (by rw[hw];exact⟨fun z=>by injection z with z;rw[z],fun z=>by injection z with z;rw[z]⟩);rw[this];have k:=k H (ae.refl _);rw[if_pos q]at k;exact k
 ·have q:¬ws.length=3:=fun z=>q (zzr1 z);refine⟨_,rfl,.inl ⟨l,_,rfl,.inl (aA.of hl),rfl,_,rfl,?_⟩⟩;rw[am,show(V.int 4)=V.int (4:Nat)from rfl,wM];refine eA (fun q4=>?_) (fun q4=>?_)
  ·have q4:ws.length=4:=of_decide_eq_true q4;obtain⟨w,hw⟩:∃w,ws[1]?=some w:=⟨_,fh (by omega)⟩;refine⟨_,rfl,l,_,1,.str w,rfl,rfl,aA.of hl,cf (j:=1) (by rw[cb,hw];rfl),(by show 2<=aj;decide),fun t ht=>?_⟩;refine⟨aS w,[("ask":Str),"say"].map aS,t,_,i_ _,rfl,.inr (b_.of aa),fS [("ask":Str),"say"],bR _,by rw[bY];decide,?_⟩;have:decide (aS w∈[("ask":Str),"say"].map aS)=decide (ws.length=4/\(ws[1]?=some ("ask":Str)∨ws[1]?=some ("say":Str))):=decide_eq_decide.mpr (by
    rw[hw];constructor
    ·intro z;obtain⟨v,hv,e⟩:=aO.mp z;have:v=w:=by unfold aS at e;injection e with e;injection e
     subst this;refine⟨q4,?_⟩;rcases bw.mp hv with rfl|hv
     ·exact .inl rfl
     ·have:v="say":=by simpa using hv
      rw[this];exact .inr rfl
    ·rintro⟨_,z|z⟩
     ·injection z with z;rw[z];simp
     ·injection z with z;rw[z];simp)
   show Q (.bl (if false=true then _ else decide (aS w∈[("ask":Str),"say"].map aS))) _
   rw[this];simp only[if_neg q]at k;exact k _ (ae.new ht)
  ·have q4:¬ws.length=4:=fun z=>q4 (zzr1 z);have k:=k H (ae.refl _);rw[if_neg q,zzr0 (fun z=>q4 z.1)]at k;exact k
inductive lK(vs:List V)(H:Hp)(Q:VK)(E:XK):Prop
 |mk (l:Addr) (n:Nat) (ws:Zb):(vs=[.ref l,.int n])->(H l=some (.lst (ws.map V.str)))->(∀H',ae H H'->Q (.bl (e_ n ws)) H')->lK vs H Q E
theorem ER{w:Str}{ws:Zb}:decide (aS w∈ws.map aS)=decide (w∈ws):=decide_eq_decide.mpr ⟨fun z=>by
  obtain⟨v,hv,e⟩:=aO.mp z;have:v=w:=by unfold aS at e;injection e with e;injection e
  rw[<-this];exact hv,fun z=>aO.mpr ⟨w,z,rfl⟩⟩
theorem Co{K:Za}{aH:Addr}(c:∀H,b_ K H aH (eZ.map V.str)){vs:List V}{H:Hp}{Q:VK}{E:XK}(h:lK vs H Q E):Dp K aH jR jS (bT Q) (start Ft vs) H:=by
 obtain⟨l,n,ws,rfl,hl,k⟩:=h;unfold e_ at k;refine⟨_,rfl,aS "",ws.map aS,l,_,i_ _,rfl,.inl (aA.of hl),fS ws,bR _,by rw[bY];decide,_,rfl,?_⟩;show if(if false=true then _ else decide (aS ""∈ws.map aS))=true then _ else _
 rw[ER];show if decide (("":Str)∈ws)=true then _ else _
 refine eA (fun q=>?_) (fun q=>?_)
 ·have k:=k H (ae.refl _);rw[if_pos (of_decide_eq_true q)]at k;exact k
 ·have q:¬("":Str)∈ws:=fun z=>q (zzr1 z);rw[if_neg q]at k;refine⟨_,rfl,.inl ⟨aH,_,rfl,.inr (c H),_,_,rfl,rfl,_,rfl,?_⟩⟩;refine eA (fun q=>?_) (fun q=>?_)
  ·have q:(n:Int)<3:=of_decide_eq_true q;obtain⟨hd,e1⟩:∃hd,eZ[n]?=some hd:=⟨_,fh (by show n<3;omega)⟩;have k:=k H (ae.refl _);rw[if_pos (by omega),e1]at k;exact⟨_,rfl,_,rfl,aH,_,(n:Int),.str hd,rfl,rfl,c H,cf (j:=n) (by rw[cb,e1];rfl),l,hd,ws,rfl,hl,k⟩
  ·have q:¬(n:Int)<3:=fun z=>q (zzr1 z);rw[if_neg (by omega)]at k;exact⟨_,rfl,l,ws,rfl,hl,k⟩
def IV(Ck:Addr)(n:Nat)(H H':Hp)(e:Addr):Prop:=ae H H'/\∃d,H' e=some (.ext (hV e Ck (some d)))/\H' d=some (.ext (iM d [("number",.int (n:Nat))]))
theorem yk{Ck:Addr}{W:L2.St->XK}{D:il}{σ:L2.St}{H:Hp}{te:TE}{n:Nat}(h1:∀Q:VK,Q (.int (n:Nat)) H->te σ H Q)(k:∀e H',IV Ck n H H' e->W σ (.ref Ck) (some e) H'):
  lG Ck (pd Ck "number") (az te bF) W D σ H:=by
 refine h1 _ ⟨(by show 1<=aj;decide),fun e he=>⟨e,_,rfl,aa,fun d H' e1 e2 nd kp=>⟨rfl,some d,e1,k e _ ⟨fun b o q=>?_,d,aa,by rw[ai nd];exact e2⟩⟩⟩⟩;have nb:b≠e:=ah q he;rw[ai nb];exact kp b o (by rw[ai nb];exact q) nb
theorem Fo{rows:List (List Str)}{i:Nat}{r:Zb}(hr:rows[i]?=some r)(h:cv 0 rows=cv i (rows.drop i)):cv 0 rows=if e_ i r=true then cv (i+1) (rows.drop (i+1))else some i:=by
 obtain⟨hi,rfl⟩:=db.mp hr;rw[h,jJ hi]
 rfl
def iz(rows:List (List Str))(rest:Str):Option Nat:=match cv 0 rows with
 |some n=>some n
 |none=>if rest=""/\3<=rows.length then none else some rows.length
inductive ia(Cn:Addr)(vs:List V)(H:Hp)(Q:VK)(E:XK):Prop
 |mk (l:Addr) (us:Ze) (rows:List (List Str)) (rest:Str):(vs=[.ref l,.str rest])->(H l=some (.lst (us.map V.ref)))->(hU H us rows)->(iz rows rest=none->∀H',ae H H'->Q .non H')->(∀n,iz rows rest=some n->∀e H',IV Cn n H H' e->E (.ref Cn) (some e) H')->ia Cn vs H Q E
theorem IV.pre{Ck:Addr}{n:Nat}{H H1 H':Hp}{e:Addr}(h:IV Ck n H1 H' e)(S:ae H H1):IV Ck n H H' e:=⟨S.trans h.1,h.2⟩
theorem wn{K:Za}{aH Cn:Addr}(c:∀H,b_ K H aH (eZ.map V.str)){vs:List V}{H:Hp}{Q:VK}{E:XK}(h:ia Cn vs H Q E):vU K aH Cn (pd Cn "number") lK (fun _=>E) (bT Q) (start y0 vs) H:=by
 obtain⟨l,us,rows,rest,rfl,hl,R,k,kx⟩:=h;have lu:=Paired.length R;refine⟨_,rfl,l,rfl,⟨_,aA.of hl⟩,?_⟩;refine eW (xs:=us.map V.ref) (fun i σ H'=>∃x y,σ=[some (.ref l),some (.str rest),x,y]/\ae H H'/\cv 0 rows=cv i (rows.drop i)) ⟨_,_,rfl,ae.refl _,rfl⟩ (fun i σ H' _ ⟨_,_,_,S,_⟩=>aA.of (S _ _ hl)) ?_ ?_
 ·rintro i v σ H1 p hi ⟨x,y,rfl,S,fb⟩ hp;obtain⟨u,hu,rfl⟩:=dH hi;obtain⟨r,hr,hat⟩:=Paired.getL R hu;have fb2:=Fo hr fb;have S2:ae H (upd H1 p (.tup [.int i,.ref u])):=S.trans (ae.new hp);refine⟨p,_,rfl,b_.of aa,rfl,_,_,rfl,_,_,rfl,rfl,?_⟩;generalize upd H1 p (.tup [.int i,.ref u])=H2 at S2 ⊢;refine⟨_,rfl,_,rfl,u,i,r,rfl,S2 _ _ hat,fun H3 S3=>⟨_,rfl,?_⟩⟩;cases g:e_ i r with
  |true =>
   rw[g,if_pos rfl]at fb2;exact bu ⟨_,_,rfl,S2.trans S3,fb2⟩
  |false =>
   rw[g,if_neg (by decide)]at fb2;refine bE (yk (n:=i) (fun Q q=>⟨_,rfl,q⟩) fun e H' xe=>kx i (by unfold iz;rw[fb2]) e H' (xe.pre (S2.trans S3)))
 ·rintro σ H1 ⟨x,y,rfl,S,fb⟩;rw[am,lu,kA]at fb;have fb:cv 0 rows=none:=fb;have hr:∀Q:VK,Q (.int (rows.length:Nat)) H1->dD (cV K) (aE V0) [some (.ref l),some (.str rest),x,y] H1 Q:=fun Q q=>⟨_,rfl,.inl ⟨l,_,rfl,.inl (aA.of (S _ _ hl)),by rw[am,lu];exact q⟩⟩;have bad:¬(rest=""/\3<=rows.length)->lG Cn (pd Cn "number") (aE (dD (cV K) (aE V0))) (fun _=>E) (bT Q) [some (.ref l),some (.str rest),x,y] H1:=fun z =>
   yk (n:=rows.length) hr fun e H' xe=>kx _ (by unfold iz;rw[fb];exact if_neg z) e H' (xe.pre S)
  refine⟨_,rfl,rfl,_,rfl,?_⟩;by_cases e:rest=""
  ·rw[zzr1 (by rw[e])];refine bu ⟨_,rfl,.inl ⟨l,_,rfl,.inl (aA.of (S _ _ hl)),.inl ⟨aH,_,rfl,.inr (c H1),_,_,rfl,rfl,_,rfl,?_⟩⟩⟩;rw[am,lu];refine eA (fun q=>?_) (fun q=>?_)
   ·have q:(rows.length:Int)<3:=of_decide_eq_true q;exact bad (fun z=>by have:=z.2;omega)
   ·have q:¬(rows.length:Int)<3:=fun z=>q (zzr1 z);exact k (by unfold iz;rw[fb];exact if_pos ⟨e,by omega⟩) _ S
  ·rw[zzr0 (fun z=>e (by injection z))];exact bE (bE (bad fun z=>e z.1))
theorem CJ{n:Nat}(hn:¬n<3){ws:Zb}(h:e_ n ws=true):∃d:aq,ws=aI d/\(d.sg.length=1∨d.sg.length=2):=by
 unfold e_ at h;split at h
 ·cases h
 ·unfold yQ at h;split at h
  ·rename_i q
   match ws,q with
   |[a,b,c],_=>exact⟨⟨a,[b],c⟩,rfl,.inl rfl⟩
  ·have:=(of_decide_eq_true h).1
   match ws,this with
   |[a,b,c,d],_=>exact⟨⟨a,[b,c],d⟩,rfl,.inr rfl⟩
theorem tp:∀{rows:List (List Str)}{n:Nat},¬n<3->cv n rows=none->∃ds:List aq,rows=ds.map aI/\∀d∈ds,d.sg.length=1∨d.sg.length=2
 |[],n,_,_=>⟨[],rfl,by simp⟩
 |r::rs,n,hn,h=>by
  unfold cv at h;split at h
  ·rename_i g;obtain⟨d,e,s⟩:=CJ hn g;obtain⟨ds,e2,s2⟩:=tp (show ¬n+1<3 by omega) h;refine⟨d::ds,by rw[bf,e,e2],fun x hx=>?_⟩;rcases bw.mp hx with rfl|hx
   ·exact s
   ·exact s2 x hx
  ·cases h
theorem pJ{n:Nat}{hd:Str}{ws:Zb}(hh:eZ[n]?=some hd)(h:e_ n ws=true)(hn:n<3):∃us,ws=hd::us:=by
  unfold e_ at h;split at h
  · cases h
  · have:=(of_decide_eq_true h).2
    cases ws with
    |nil=>rw[hh]at this;cases this
    |cons w ws=>rw[hh]at this;have:w=hd:=(by simpa using this);exact⟨ws,by rw[this]⟩
theorem u_{rows:List (List Str)}{rest:Str}(h:iz rows rest=none):rest=""/\∃J0 J4 J5 ds,rows=bt J0 J4 J5 ds/\∀d∈ds,d.sg.length=1∨d.sg.length=2:=by
 unfold iz at h;split at h
 ·cases h
 ·rename_i fb;split at h
  ·rename_i q;refine⟨q.1,?_⟩
   match rows,q.2,fb with
   |r0::r1::r2::rs,_,fb =>
    unfold cv at fb;split at fb
    ·rename_i g0;unfold cv at fb;split at fb
     ·rename_i g1;unfold cv at fb;split at fb
      ·rename_i g2;obtain⟨J0,rfl⟩:=pJ (n:=0) rfl g0 (by decide);obtain⟨J4,rfl⟩:=pJ (n:=0+1) rfl g1 (by decide);obtain⟨J5,rfl⟩:=pJ (n:=0+1+1) rfl g2 (by decide);obtain⟨ds,rfl,s⟩:=tp (by decide) fb;exact⟨J0,J4,J5,ds,rfl,s⟩
      ·cases fb
     ·cases fb
    ·cases fb
  ·cases h
abbrev GK(x:Str):Prop:=TB 1000 98 900 1000000 x.cps.toList
theorem TB.few{x:Str}{J0 J4 J5:Zb}{ds:List aq}(h:GK x)(e:cX x=bt J0 J4 J5 ds):Fz J0 J4 J5 ds/\ds.length<=900:=by
 obtain⟨h1,h2⟩:=h.lines;have hl:(cX x).length+1<=901:=by
  unfold cX;rw[am];have:=h1;rw[fK,bp]at this;exact this
 rw[e,yf]at hl;have hr:∀r∈bt J0 J4 J5 ds,r.length<=99/\∀w∈r,w.length<=1000:=fun r hr=>by
  rw[<-e]at hr;obtain⟨l,hl,rfl⟩:=aO.mp hr;have:=h2 l (by rw[fK];exact cJ _ hl);exact this.2
 have hd:∀r∈aU J0 J4 J5,r.length<=99/\∀w∈r,w.length<=1000:=fun r h=>hr r (cJ _ h);have a:=hd (("asks":Str)::J0) (by simp[aU]);have s:=hd (("says":Str)::J4) (by simp[aU]);have m:=hd (("rooms":Str)::J5) (by simp[aU]);simp only[cw]at a s m;exact⟨⟨by omega,by omega,by omega,by omega,fun w hw=>a.2 w (cj _ hw),fun w hw=>s.2 w (cj _ hw),fun w hw=>m.2 w (cj _ hw)⟩,by omega⟩
inductive jx(C Cx Cn:Addr)(vs:List V)(H:Hp)(Q:VK)(E:XK):Prop
 |mk (x:Str):(vs=[.str x])->(GK x)->(∀n,iz (cX x) (eM x)=some n->∀e H',IV Cn n H H' e->E (.ref Cn) (some e) H')->(∀J0 J4 J5 ds,eM x=""->cX x=bt J0 J4 J5 ds->Fs ds->Fz J0 J4 J5 ds->ds.length<=900->iz (cX x) (eM x)=none->∃o,eo J0 J4 J5 ds o/\(o=none->∀y H',y8 C H' y J0 J4 J5 ds->ae H H'->Q (.ref y) H')/\(∀p n,o=some (p,n)->∀a H',IW Cx H' a (.str p) (.int (n:Nat))->ae H H'->E (.ref Cx) (some a) H'))->jx C Cx Cn vs H Q E
theorem DM{K:Za}{C Cx Cn aH:Addr}(c:∀H,b_ K H aH (eZ.map V.str)){vs:List V}{H:Hp}{Q:VK}{E:XK}(h:jx C Cx Cn vs H Q E):FO K aH lL C (nK C Cx) (ia Cn) (fun _=>E) (bT Q) (start IP vs) H:=by
 obtain⟨x,rfl,tb,kn,km⟩:=h;obtain⟨z1,z2⟩:=tb.lines;have za:=tb.all;rw[<-br]at za;have zl:(cI x).length<=900:=by have:=z1;rw[fK,bp]at this;simp at this;exact this
 refine⟨_,rfl,rfl,_,_,rfl,rfl,(by decide +kernel),bj za (bj (by decide) sZ),ei (aW (by omega)),?_⟩;rw[fK];intro l hl;have S1:ae H (upd H l (.lst ((cI x++[eM x]).map V.str))):=ae.new hl;have e1:upd H l (.lst ((cI x++[eM x]).map V.str)) l=some (.lst ((cI x).map V.str++[.str (eM x)])):=by rw[aa,aQ];rfl
 generalize upd H l (.lst ((cI x++[eM x]).map V.str))=H1 at S1 e1 ⊢;refine⟨_,rfl,_,rfl,_,rfl,l,_,rfl,aA.of e1,fun q hq=>?_⟩;rw[yS];have S2:ae H1 (upd H1 q (.lst ((cI x).map V.str))):=ae.new hq;have e2:upd H1 q (.lst ((cI x).map V.str)) q=some (.lst ((cI x).map V.str)):=aa;generalize upd H1 q (.lst ((cI x).map V.str))=H2 at S2 e2 ⊢;refine⟨q,rfl,⟨_,aA.of e2⟩,fun f hf=>?_⟩;refine dL (xs:=(cI x).map V.str) (fun i vs H'=>∃us:List Addr,vs=us.map V.ref/\qt f H' us ((cX x).take i)/\ae H2 H'/\H' f=some (.lst vs)) ⟨[],rfl,.nil,ae.new hf,aa⟩ (fun i vs H' _ ⟨_,_,_,S,h'⟩=>⟨h',aA.of (S _ _ e2)⟩) ?_ ?_;rotate_left
 ·rintro i vs H' y hx hi ⟨us,rfl,R,S,f'⟩;obtain⟨t,ht,rfl⟩:=dE hx;have hr:(cX x)[i]?=some (bL t " "):=by unfold cX;rw[cb,ht];rfl
  have zt:=z2 t (by rw[fK];exact cJ _ (cu ht));refine gN (t7 ⟨_,rfl,rfl,_,_,rfl,rfl,(by decide +kernel),ei (aW (by omega)),ei (aW (by omega)),?_⟩);intro u hu;have nu:u≠f:=fun z=>by rw[z,f']at hu;cases hu
  refine⟨kp f' hu,?_,u3 hi ⟨us++[u],by rw[aQ];rfl,?_,?_,aa⟩⟩
  ·rw[am,Paired.length R,aP];exact aW (by unfold cX;rw[am];omega)
  ·rw[take_snoc hr];exact R.add (ae.new hu) nu aa
  ·intro b o e;rw[ai (ah e hf)];exact kp (S _ _ e) hu
 rintro vs H3 ⟨us,rfl,R3,S3,f3⟩;rw[am,show(cI x).length=(cX x).length by unfold cX;rw[am],cZ]at R3;have R3:=R3.at_;refine⟨_,rfl,_,rfl,_,rfl,l,_,-1,.str (eM x),rfl,rfl,aA.of (S3 _ _ (S2 _ _ e1)),tO _ _,?_⟩;refine⟨f,us,cX x,eM x,rfl,f3,R3,fun tv H4 S4=>?_,fun n hn e H' xe=>kn n hn e H' (xe.pre ((S1.trans S2).trans S3))⟩;obtain⟨re,J0,J4,J5,ds,er,sg⟩:=u_ tv;obtain⟨F,zd⟩:=tb.few er;obtain⟨o,v,ko,ke⟩:=km J0 J4 J5 ds re er sg F zd tv;have f4:=S4 _ _ f3;have R4:=R3.same S4;have S04:ae H H4:=((S1.trans S2).trans S3).trans S4;clear S1 S2 S3 S4 e1 e2 f3 R3;rw[er]at R4;obtain⟨u0,u1,u2,ws,rfl,h0,h1,h2,RD⟩:=sJ R4;refine⟨_,rfl,.inl ⟨aH,_,rfl,.inr (c H4),_,rfl,f,_,rfl,aA.of f4,fun q hq=>?_⟩⟩;have ec:df ((u0::u1::u2::ws).map V.ref) none (some (((eZ.map V.str).length:Nat):Int))=[u0,u1,u2].map V.ref:=by
  rw[yT];rfl
 rw[ec];have S5:ae H4 (upd H4 q (.lst ([u0,u1,u2].map V.ref))):=ae.new hq;have e5:upd H4 q (.lst ([u0,u1,u2].map V.ref)) q=some (.lst ([u0,u1,u2].map V.ref)):=aa;generalize upd H4 q (.lst ([u0,u1,u2].map V.ref))=H5 at S5 e5 ⊢;have R5:hU H5 [u0,u1,u2] [("asks":Str)::J0,("says":Str)::J4,("rooms":Str)::J5]:=.cons (S5 _ _ h0) (.cons (S5 _ _ h1) (.cons (S5 _ _ h2) .nil));refine⟨q,rfl,⟨_,aA.of e5⟩,fun g hg=>?_⟩;refine dL (xs:=[u0,u1,u2].map V.ref) (fun i vs H'=>∃us:List Addr,vs=us.map V.ref/\qt g H' us ([J0,J4,J5].take i)/\ae H5 H'/\H' g=some (.lst vs)) ⟨[],rfl,.nil,ae.new hg,aa⟩ (fun i vs H' _ ⟨_,_,_,S,h'⟩=>⟨h',aA.of (S _ _ e5)⟩) ?_ ?_;rotate_left
 ·rintro i vs H' y hx hi ⟨us,rfl,R,S,g'⟩;obtain⟨t,ht,rfl⟩:=dH hx;obtain⟨r,hr,hat⟩:=Paired.getL R5 ht;obtain⟨a,r',er,hr'⟩:∃(a:Str) (r':Zb),r=a::r'/\[J0,J4,J5][i]?=some r':=by
   have hi:i<3:=hi;have:i=0∨i=1∨i=2:=by omega
   rcases this with rfl|rfl|rfl<;>cases hr<;>exact⟨_,_,rfl,rfl⟩
  subst er;refine gN (t7 ⟨_,rfl,_,rfl,t,_,rfl,aA.of (S _ _ hat),?_⟩);rw[show(1:Int)=((1:Nat):Int)from rfl,pP];show ∀p,H' p=none->_;intro u hu;have nu:u≠g:=fun z=>by rw[z,g']at hu;cases hu
  refine⟨kp g' hu,?_,u3 hi ⟨us++[u],by rw[aQ];rfl,?_,?_,aa⟩⟩
  ·rw[am,Paired.length R,aP];exact aW (by show min i 3<=_;omega)
  ·rw[take_snoc hr'];exact R.add (ae.new hu) nu aa
  ·intro b o e;rw[ai (ah e hg)];exact kp (S _ _ e) hu
 rintro vs H6 ⟨us,rfl,R6,S6,g6⟩;have R6:hU H6 us [J0,J4,J5]:=R6.at_;obtain⟨v0,v1,v2,rfl,k0,k1,k2⟩:∃v0 v1 v2,us=[v0,v1,v2]/\H6 v0=some (.lst (J0.map V.str))/\H6 v1=some (.lst (J4.map V.str))/\H6 v2=some (.lst (J5.map V.str)):=by
  cases R6 with
  |cons a R=>cases R with
   |cons b R=>cases R with
    |cons d R=>cases R with
     |nil=>exact⟨_,_,_,rfl,a,b,d⟩
 refine⟨g,_,rfl,aA.of g6,rfl,_,_,rfl,_,_,rfl,_,_,rfl,rfl,?_⟩;refine⟨_,rfl,_,rfl,_,rfl,_,rfl,.inl ⟨aH,_,rfl,.inr (c H6),_,rfl,f,_,rfl,aA.of (S6 _ _ (S5 _ _ f4)),fun q' hq'=>?_⟩⟩;have ec2:df ((u0::u1::u2::ws).map V.ref) (some (((eZ.map V.str).length:Nat):Int)) none=ws.map V.ref:=by
  rw[tH];rfl
 rw[ec2];have S7:ae H6 (upd H6 q' (.lst (ws.map V.ref))):=ae.new hq';have e7:upd H6 q' (.lst (ws.map V.ref)) q'=some (.lst (ws.map V.ref)):=aa;generalize upd H6 q' (.lst (ws.map V.ref))=H7 at S7 e7 ⊢;have RD7:hU H7 ws (ds.map aI):=((RD.same S5).same S6).same S7;have lws:ws.length=ds.length:=by rw[Paired.length RD7,am]
 refine⟨q',rfl,⟨_,aA.of e7⟩,fun d hd=>?_⟩;refine dL (xs:=ws.map V.ref) (fun i vs H'=>∃ts:List Addr,vs=ts.map V.ref/\dg H' ts (ds.take i)/\ae H7 H'/\H' d=some (.lst vs)) ⟨[],rfl,.nil,ae.new hd,aa⟩ (fun i vs H' _ ⟨_,_,_,S,h'⟩=>⟨h',aA.of (S _ _ e7)⟩) ?_ ?_;rotate_left
 ·rintro i vs H' y hx hi ⟨ts,rfl,D,S,d'⟩;obtain⟨t,ht,rfl⟩:=dH hx;obtain⟨r,hr,hat⟩:=Paired.getL RD7 ht;rw[cb]at hr;obtain⟨dr,hdr,rfl⟩:=rY.mp hr;refine gN (t7 ⟨_,rfl,t,dr,rfl,S _ _ hat,?_,fun u H8 hu8 S8=>?_⟩)
  ·have:=sg dr (cu hdr);omega
  have S78:=S.trans S8;refine⟨S8 _ _ d',?_,u3 hi ⟨ts++[u],by rw[aQ];rfl,?_,?_,aa⟩⟩
  ·rw[am,Paired.length D,aP];exact aW (by omega)
  ·rw[take_snoc hdr];exact Paired.app ((D.kt (ae.kt S8)).kt (jl (S8 _ _ d'))) (.cons (hu8.kt (jl (S8 _ _ d'))) .nil)
  ·intro b o e;rw[ai (ah e hd)];exact S78 _ _ e
 rintro vs H8 ⟨ts,rfl,D8,S8,d8⟩;rw[am,lws,cZ]at D8;refine fun y dx hx hdx hne=>?_;have hxx:upd H8 dx (.own y) y=none:=by rw[ai hne.symm];exact hx
 have S9:ae H8 (upd (upd H8 dx (.own y)) y (.ins C dx [])):=(ae.new hdx).trans (ae.new hxx);have S08:ae H H8:=(((S04.trans S5).trans S6).trans S7).trans S8;have S68:=S7.trans S8;have ext:∀H',dO y (upd (upd H8 dx (.own y)) y (.ins C dx [])) H'->ae H H':=fun H' ex b o e=>ex _ _ (S9 _ _ (S08 _ _ e)) (ah (S08 _ _ e) hx);exact⟨y,dx,v0,v1,v2,d,ts,J0,J4,J5,ds,o,rfl,aa,⟨S9 _ _ (S68 _ _ k0),S9 _ _ (S68 _ _ k1),S9 _ _ (S68 _ _ k2),S9 _ _ d8,D8.kt (ae.kt S9)⟩,F,v,fun ho H' M ex=>⟨rfl,ko ho y H' M (ext H' ex)⟩,fun p n ho a H' xa ex=>ke p n ho a H' xa (ext H' ex)⟩
inductive i4(vs:List V)(H:Hp)(Q:VK)(E:XK):Prop
 |mk (l:Addr) (n:Nat) (ws:Zb):(vs=[.int n,.ref l])->(H l=some (.lst (ws.map V.str)))->(ws≠[])->(ws.length<=1000)->(∀H',ae H H'->Q (.bl (e_ n ws)) H')->i4 vs H Q E
theorem yj{K:Za}{vs:List V}{H:Hp}{Q:VK}{E:XK}(h:i4 vs H Q E):ss K (bT Q) (start tS vs) H:=by
 obtain⟨l,n,ws,rfl,hl,w0,wz,k⟩:=h;unfold e_ at k;refine⟨_,rfl,l,rfl,⟨_,aA.of hl⟩,fun f hf=>?_⟩;refine dL (xs:=ws.map V.str) (fun i vs H'=>vs=((ws.take i).filter fun(w:Str)=>decide (w=("":Str))).map V.str/\ae H H'/\H' f=some (.lst vs)) ⟨rfl,ae.new hf,aa⟩ (fun i vs H' _ ⟨_,S,h'⟩=>⟨h',aA.of (S _ _ hl)⟩) ?_ ?_;rotate_left
 ·rintro i vs H' x hx hi ⟨rfl,S,f'⟩;obtain⟨w,hw,rfl⟩:=dE hx;refine gN ⟨_,rfl,rfl,_,rfl,?_⟩;have e:decide (V.str w=V.str ("":Str))=decide (w=("":Str)):=decide_eq_decide.mpr ⟨fun z=>by injection z,fun z=>by rw[z]⟩;rw[e];refine eA (fun q=>?_) (fun q=>?_)
  ·refine⟨_,rfl,f',?_,u3 hi ⟨?_,?_,aa⟩⟩
   ·rw[am];refine aW (bj (jG _ _) ?_);rw[aP];omega
   ·rw[i8 hw,if_pos q,aQ];rfl
   ·intro b o e;rw[ai (ah e hf)];exact S _ _ e
  ·refine u3 hi ⟨?_,S,f'⟩;rw[i8 hw,if_neg q,fD]
 rintro vs H1 ⟨rfl,S1,f1⟩;rw[am,cZ]at f1;refine⟨(by show 0<=aj;decide),fun g hg=>?_⟩;have S2:ae H (upd H1 g (.lst [])):=S1.trans (ae.new hg);refine Gm (b:=[]) (kp f1 hg) aa ⟨_,rfl,?_⟩;generalize upd H1 g (.lst [])=H2 at S2 ⊢;by_cases e:("":Str)∈ws
 ·rw[zzr0 (fun z=>List.filter_eq_nil_iff.mp z _ e (zzr1 rfl))];have k:=k H2 S2;rw[if_pos e]at k;exact bE k
 ·rw[zzr1 (List.filter_eq_nil_iff.mpr fun w hw z=>e (by rw[<-of_decide_eq_true z];exact hw))];simp only[if_neg e]at k;refine bu ?_;have hl:=S2 _ _ hl;refine⟨_,rfl,_,_,rfl,rfl,_,rfl,?_⟩;refine eA (fun q=>?_) (fun q=>?_)
  ·have q:(n:Int)<3:=of_decide_eq_true q;obtain⟨hd,e1⟩:∃hd,eZ[n]?=some hd:=⟨_,fh (by show n<3;omega)⟩;simp only[if_pos (show n<3 by omega),e1]at k;cases ws with
   |nil=>exact absurd rfl w0
   |cons w ws =>
    refine⟨_,rfl,l,_,0,.str w,rfl,rfl,aA.of hl,cf (j:=0) rfl,(by show 3<=aj;decide),fun p hp=>?_⟩;have S3:=S2.trans (ae.new (o:=.lst [.str "asks",.str "says",.str "rooms"]) hp);have hl3:=kp (x:=.lst [.str "asks",.str "says",.str "rooms"]) hl hp;refine⟨_,rfl,p,eZ.map V.str,(n:Int),.str hd,rfl,rfl,aA.of aa,cf (j:=n) (by rw[cb,e1];rfl),rfl,_,rfl,?_⟩;have k:=k _ S3;by_cases ew:w=hd
    ·rw[zzr1 (by rw[ew])];refine bE ⟨_,rfl,.inl ⟨l,_,rfl,.inl (aA.of hl3),_,_,rfl,rfl,?_⟩⟩;have:decide ((1:Int)<((((w::ws).map V.str).length:Nat):Int))=decide (1<(w::ws).length/\(w::ws)[0]?=some hd):=decide_eq_decide.mpr ⟨fun z=>⟨by rw[am]at z;omega,by rw[ew];rfl⟩,fun z=>by have:=z.1;rw[am];omega⟩;show Q (.bl (decide ((1:Int)<((((w::ws).map V.str).length:Nat):Int)))) _;rw[this];exact k
    ·rw[zzr0 (fun z=>ew (by injection z))];rw[zzr0 (fun z=>ew (by have:=z.2;simpa using this))]at k;exact bu k
  ·have q:¬(n:Int)<3:=fun z=>q (zzr1 z);simp only[if_neg (show ¬n<3 by omega)]at k;unfold yQ at k;have k:=k H2 S2;refine⟨_,rfl,.inl ⟨l,_,rfl,.inl (aA.of hl),rfl,_,rfl,?_⟩⟩;rw[am,show(V.int 3)=V.int (3:Nat)from rfl,wM];refine eA (fun q=>?_) (fun q=>?_)
   ·have q:ws.length=3:=of_decide_eq_true q;obtain⟨w,hw⟩:∃w,ws[1]?=some w:=⟨_,fh (by omega)⟩;refine⟨_,rfl,l,_,1,.str w,rfl,rfl,aA.of hl,cf (j:=1) (by rw[cb,hw];rfl),rfl,?_⟩;have:decide (V.str w=V.str ("still":Str))=decide (ws[1]?=some ("still":Str)):=decide_eq_decide.mpr (by rw[hw];exact⟨fun z=>by injection z with z;rw[z],fun z=>by injection z with z;rw[z]⟩);rw[this];rw[if_pos q]at k;exact k
   ·have q:¬ws.length=3:=fun z=>q (zzr1 z);rw[if_neg q]at k;refine⟨_,rfl,.inl ⟨l,_,rfl,.inl (aA.of hl),rfl,_,rfl,?_⟩⟩;rw[am,show(V.int 4)=V.int (4:Nat)from rfl,wM];refine eA (fun q4=>?_) (fun q4=>?_)
    ·have q4:ws.length=4:=of_decide_eq_true q4;obtain⟨w,hw⟩:∃w,ws[1]?=some w:=⟨_,fh (by omega)⟩;have at1:xJ (ws.map V.str) 1=some (.str w):=cf (j:=1) (by rw[cb,hw];rfl);rw[hw]at k;refine⟨_,rfl,l,_,1,.str w,rfl,rfl,aA.of hl,at1,rfl,_,rfl,?_⟩;by_cases ea:w="ask"
     ·rw[zzr1 (by rw[ea])];rw[zzr1 ⟨q4,.inl (by rw[ea])⟩]at k;exact bE k
     ·rw[zzr0 (fun z=>ea (by injection z))];refine bu ⟨_,rfl,l,_,1,.str w,rfl,rfl,aA.of hl,at1,rfl,?_⟩;have:decide (V.str w=V.str ("say":Str))=decide (ws.length=4/\(some w=some ("ask":Str)∨some w=some ("say":Str))):=decide_eq_decide.mpr ⟨fun z=>⟨q4,.inr (by injection z with z;rw[z])⟩,fun z=>by rcases z.2 with z|z;(injection z with z;exact absurd z ea);(injection z with z;rw[z])⟩;rw[this];exact k
    ·have q4:¬ws.length=4:=fun z=>q4 (zzr1 z);rw[zzr0 (fun z=>q4 z.1)]at k;exact k
inductive dS(vs:List V)(H:Hp)(Q:VK)(E:XK):Prop
 |mk (x:Str):(vs=[.str x])->(GK x)->(∀n,iz (cX x) (eM x)=some n->∀t H',H' t=some (.tup [.str "text",.int (n:Nat)])->ae H H'->Q (.ref t) H')->(∀J0 J4 J5 ds,eM x=""->cX x=bt J0 J4 J5 ds->Fs ds->Fz J0 J4 J5 ds->ds.length<=900->iz (cX x) (eM x)=none->∃o,eo J0 J4 J5 ds o/\(o=none->∀r l1 l2 l3 l4 ts H',H' r=some (.lst [.ref l1,.ref l2,.ref l3,.ref l4])->Lists H' l1 l2 l3 l4 ts J0 J4 J5 ds->ae H H'->Q (.ref r) H')/\(∀p n,o=some (p,n)->∀t H',H' t=some (.tup [.str p,.int (n:Nat)])->ae H H'->Q (.ref t) H'))->dS vs H Q E
theorem zS{K:Za}{vs:List V}{H:Hp}{Q:VK}{E:XK}(h:dS vs H Q E):sr K wc i4 (bT Q) (start tR vs) H:=by
 obtain⟨x,rfl,tb,kn,km⟩:=h;obtain⟨z1,z2⟩:=tb.lines;have za:=tb.all;rw[<-br]at za;have zl:(cI x).length<=900:=by have:=z1;rw[fK,bp]at this;simp at this;exact this
 have zr:(cX x).length=(cI x).length:=by unfold cX;rw[am]
 refine⟨_,rfl,rfl,_,_,rfl,rfl,(by decide +kernel),bj za (bj (by decide) sZ),ei (aW (by omega)),?_⟩;rw[fK];intro l hl;have S1:ae H (upd H l (.lst ((cI x++[eM x]).map V.str))):=ae.new hl;have e1:upd H l (.lst ((cI x++[eM x]).map V.str)) l=some (.lst ((cI x).map V.str++[.str (eM x)])):=by rw[aa,aQ];rfl
 generalize upd H l (.lst ((cI x++[eM x]).map V.str))=H1 at S1 e1 ⊢;refine⟨(by show 0<=aj;decide),fun f hf=>?_⟩;have S2:ae H1 (upd H1 f (.lst [])):=ae.new hf;have f2:upd H1 f (.lst []) f=some (.lst []):=aa;have nH:∀b o,H b=some o->b≠f:=fun b o e=>ah (S1 _ _ e) hf;have nl:l≠f:=ah e1 hf;generalize upd H1 f (.lst [])=H2 at S2 f2 ⊢;refine⟨_,rfl,_,rfl,_,rfl,l,_,rfl,aA.of (S2 _ _ e1),fun q hq=>?_⟩;rw[yS];have S3:ae H2 (upd H2 q (.lst ((cI x).map V.str))):=ae.new hq;have e3:upd H2 q (.lst ((cI x).map V.str)) q=some (.lst ((cI x).map V.str)):=aa;have nq:q≠f:=(ah f2 hq).symm;generalize upd H2 q (.lst ((cI x).map V.str))=H3 at S3 e3 ⊢;have S03:ae H H3:=(S1.trans S2).trans S3;refine⟨q,rfl,⟨_,aA.of e3⟩,?_⟩;refine eW (xs:=(cI x).map V.str) (fun i σ H'=>∃a b c us,σ=[some (.str x),some (.ref l),some (.ref f),a,b,c,none]/\dO f H3 H'/\H' f=some (.lst (us.map V.ref))/\qt f H' us ((cX x).take i)/\cv 0 (cX x)=cv i ((cX x).drop i))
  ⟨_,_,_,[],rfl,fun b o e _=>e,S3 _ _ f2,.nil,rfl⟩ (fun i σ H' _ ⟨_,_,_,_,_,S,_⟩=>aA.of (S _ _ e3 nq)) ?_ ?_
 ·rintro i v σ H4 p hi ⟨a,b,c,us,rfl,S,f4,R,fb⟩ hp;obtain⟨t,ht,rfl⟩:=dE hi;have hr:(cX x)[i]?=some (bL t " "):=by unfold cX;rw[cb,ht];rfl
  have zt:=z2 t (by rw[fK];exact cJ _ (cu ht));have fb2:=Fo hr fb;refine⟨p,_,rfl,b_.of aa,rfl,_,_,rfl,_,_,rfl,rfl,?_⟩;have T5:ae H4 (upd H4 p (.tup [.int i,.str t])):=ae.new hp;generalize upd H4 p (.tup [.int i,.str t])=H5 at T5 ⊢;refine⟨_,rfl,rfl,_,_,rfl,rfl,(by decide +kernel),ei (aW (by omega)),ei (aW (by omega)),fun u hu=>?_⟩;have nu:u≠f:=(ah (T5 _ _ f4) hu).symm;have T6:ae H4 (upd H5 u (.lst ((bL t " ").map V.str))):=T5.trans (ae.new hu);have u6:upd H5 u (.lst ((bL t " ").map V.str)) u=some (.lst ((bL t " ").map V.str)):=aa;generalize upd H5 u (.lst ((bL t " ").map V.str))=H6 at T6 u6 ⊢;refine⟨_,rfl,_,rfl,u,i,_,rfl,u6,kL _ _,by omega,fun H7 S7=>⟨_,rfl,?_⟩⟩;have T7:=T6.trans S7;have X7:dO f H3 H7:=fun b o e n=>T7 _ _ (S _ _ e n);cases g:e_ i (bL t " ")with
  |false =>
   rw[g,if_neg (by decide)]at fb2;refine bE ⟨_,rfl,(by show 2<=aj;decide),fun r hr=>?_⟩;exact kn i (by unfold iz;rw[fb2]) r _ aa fun b o e=>kp (X7 _ _ (S03 _ _ e) (nH _ _ e)) hr
  |true =>
   rw[g,if_pos rfl]at fb2;refine bu ⟨_,rfl,.inl ⟨rfl,_,aA.of (T7 _ _ f4)⟩,_,rfl,f,us.map V.ref,.ref u,rfl,rfl,T7 _ _ f4,?_,?_⟩
   ·rw[am,Paired.length R,aP];exact aW (by omega)
   refine⟨_,_,_,us++[u],rfl,fun b o e n=>by rw[ai n];exact X7 _ _ e n,by rw[aa,aQ];rfl,?_,fb2⟩;rw[take_snoc hr];exact R.add T7 nu (S7 _ _ u6)
 ·rintro σ H4 ⟨a,b,c,us,rfl,S,f4,R,fb⟩;rw[am,<-zr,kA]at fb;rw[am,<-zr,cZ]at R;have fb:cv 0 (cX x)=none:=fb;have lu:us.length=(cX x).length:=Paired.length R;have S04:ae H H4:=fun b o e=>S _ _ (S03 _ _ e) (nH _ _ e);have l4:=S _ _ (S3 _ _ (S2 _ _ e1)) nl;have bad:¬(eM x=""/\3<=(cX x).length)->aZ (dZ (ba (tC (.str "text")) (dD (cV K) (aE V2)))) (bT Q) [some (.str x),some (.ref l),some (.ref f),a,b,c,none] H4:=fun z=>by
   refine⟨_,rfl,.inl ⟨f,_,rfl,.inl (aA.of f4),(by show 2<=aj;decide),fun r hr=>?_⟩⟩;rw[am,lu];exact kn _ (by unfold iz;rw[fb];exact if_neg z) r _ aa (S04.trans (ae.new hr))
  refine⟨_,rfl,.inl ⟨f,_,rfl,.inl (aA.of f4),_,_,rfl,rfl,_,rfl,?_⟩⟩;rw[am,lu];by_cases q3:(((cX x).length:Nat):Int)<3
  ·rw[zzr1 q3];exact bE (bE (bad fun z=>by have:=z.2;omega))
  rw[zzr0 q3];refine bu ⟨_,rfl,_,rfl,l,_,-1,.str (eM x),rfl,rfl,aA.of l4,tO _ _,rfl,_,rfl,?_⟩;by_cases e:eM x="";rotate_left
  ·rw[zzr0 (fun z=>e (by injection z))];exact bE (bad fun z=>e z.1)
  rw[zzr1 (by rw[e])];refine bu ?_;have tv:iz (cX x) (eM x)=none:=by unfold iz;rw[fb];exact if_pos ⟨e,by omega⟩
  obtain⟨re,J0,J4,J5,ds,er,sg⟩:=u_ tv;obtain⟨F,zd⟩:=tb.few er;obtain⟨o,v,ko,ke⟩:=km J0 J4 J5 ds re er sg F zd tv;have R4:hU H4 us (bt J0 J4 J5 ds):=er▸R.at_;obtain⟨u0,u1,u2,ws,rfl,h0,h1,h2,RD⟩:=sJ R4;clear R R4 fb bad;refine⟨_,rfl,_,rfl,f,_,rfl,aA.of f4,fun q' hq'=>?_⟩;have ec2:df ((u0::u1::u2::ws).map V.ref) (some 3) none=ws.map V.ref:=by
   rw[show(3:Int)=((3:Nat):Int)from rfl,tH];rfl
  rw[ec2];have S7:ae H4 (upd H4 q' (.lst (ws.map V.ref))):=ae.new hq';have e7:upd H4 q' (.lst (ws.map V.ref)) q'=some (.lst (ws.map V.ref)):=aa;generalize upd H4 q' (.lst (ws.map V.ref))=H7 at S7 e7 ⊢;have RD7:hU H7 ws (ds.map aI):=RD.same S7;have lws:ws.length=ds.length:=by rw[Paired.length RD7,am]
  refine⟨q',rfl,⟨_,aA.of e7⟩,fun d hd=>?_⟩;refine dL (xs:=ws.map V.ref) (fun i vs H'=>∃ts:List Addr,vs=ts.map V.ref/\dg H' ts (ds.take i)/\ae H7 H'/\H' d=some (.lst vs)) ⟨[],rfl,.nil,ae.new hd,aa⟩ (fun i vs H' _ ⟨_,_,_,S,h'⟩=>⟨h',aA.of (S _ _ e7)⟩) ?_ ?_;rotate_left
  ·rintro i vs H' y hx hi ⟨ts,rfl,D,S,d'⟩;obtain⟨t,ht,rfl⟩:=dH hx;obtain⟨r,hr,hat⟩:=Paired.getL RD7 ht;rw[cb]at hr;obtain⟨dr,hdr,rfl⟩:=rY.mp hr;have hat:=S _ _ hat;have len:((aI dr).map V.str).length=dr.sg.length+2:=by rw[am];simp[aI]
   refine gN (t7 ⟨_,rfl,t,_,0,.str dr.a,rfl,rfl,aA.of hat,cf (j:=0) rfl,?_⟩);refine⟨_,rfl,_,rfl,_,rfl,.inl ⟨t,_,rfl,.inl (aA.of hat),_,_,rfl,rfl,_,rfl,t,_,rfl,aA.of hat,fun g hg=>?_⟩⟩;have ec:df ((aI dr).map V.str) (some 1) (some ((((aI dr).map V.str).length:Nat)-1:Int))=dr.sg.map V.str:=by
    rw[len,show(((dr.sg.length+2:Nat):Int)-1)=((dr.sg.length+1:Nat):Int) by omega,show(1:Int)=((1:Nat):Int)from rfl,CO _ (by omega) (by simp[aI])];unfold aI;simp
   rw[ec];have T1:ae H' (upd H' g (.lst (dr.sg.map V.str))):=ae.new hg;have g1:upd H' g (.lst (dr.sg.map V.str)) g=some (.lst (dr.sg.map V.str)):=aa;generalize upd H' g (.lst (dr.sg.map V.str))=J1 at T1 g1 ⊢;refine⟨g,_,rfl,.inl ⟨aA.of g1,fun s hs=>?_⟩⟩;have T2:ae H' (upd J1 s (.tup (dr.sg.map V.str))):=T1.trans (ae.new hs);have g2:upd J1 s (.tup (dr.sg.map V.str)) s=some (.tup (dr.sg.map V.str)):=aa;generalize upd J1 s (.tup (dr.sg.map V.str))=J2 at T2 g2 ⊢;refine⟨_,rfl,_,rfl,.inl ⟨t,_,rfl,.inl (aA.of (T2 _ _ hat)),_,_,rfl,rfl,t,_,_,.str dr.b,rfl,rfl,aA.of (T2 _ _ hat),?_,(by show 3<=aj;decide),fun u hu=>?_⟩⟩
   ·rw[len,show(((dr.sg.length+2:Nat):Int)-1)=((dr.sg.length+1:Nat):Int) by omega];refine cf ?_;rw[cb];simp[aI]
   have T3:=T2.trans (ae.new (o:=.tup [.str dr.a,.ref s,.str dr.b]) hu);have at3:eU (upd J2 u (.tup [.str dr.a,.ref s,.str dr.b])) u dr:=⟨s,aa,kp g2 hu⟩;generalize upd J2 u (.tup [.str dr.a,.ref s,.str dr.b])=J3 at T3 at3 ⊢;have S3':=S.trans T3;refine⟨T3 _ _ d',?_,u3 hi ⟨ts++[u],by rw[aQ];rfl,?_,?_,aa⟩⟩
   ·rw[am,Paired.length D,aP];exact aW (by omega)
   ·rw[take_snoc hdr];exact Paired.app ((D.kt (ae.kt T3)).kt (jl (T3 _ _ d'))) (.cons (at3.kt (jl (T3 _ _ d'))) .nil)
   ·intro b o e;rw[ai (ah e hd)];exact S3' _ _ e
  rintro vs H8 ⟨ts,rfl,D8,S8,d8⟩;rw[am,lws,cZ]at D8;have f8:=S8 _ _ (S7 _ _ f4);have one:∀(h:Str) (ws:Zb),df ((h::ws).map V.str) (some 1) none=ws.map V.str:=fun h ws=>by
   rw[show(1:Int)=((1:Nat):Int)from rfl,pP];rfl
  refine⟨_,rfl,f,_,0,.ref u0,rfl,rfl,aA.of f8,cf (j:=0) rfl,_,rfl,u0,_,rfl,aA.of (S8 _ _ (S7 _ _ h0)),fun m1 k1=>?_⟩;rw[one];have T1:=ae.new (o:=.lst (J0.map V.str)) k1;refine⟨_,rfl,f,_,1,.ref u1,rfl,rfl,aA.of (T1 _ _ f8),cf (j:=1) rfl,_,rfl,u1,_,rfl,aA.of (T1 _ _ (S8 _ _ (S7 _ _ h1))),fun m2 k2=>?_⟩;rw[one];have T2:=T1.trans (ae.new (o:=.lst (J4.map V.str)) k2);refine⟨_,rfl,f,_,2,.ref u2,rfl,rfl,aA.of (T2 _ _ f8),cf (j:=2) rfl,_,rfl,u2,_,rfl,aA.of (T2 _ _ (S8 _ _ (S7 _ _ h2))),fun m3 k3=>?_⟩;rw[one];have T3:=T2.trans (ae.new (o:=.lst (J5.map V.str)) k3);have L9:Lists (upd (upd (upd H8 m1 (.lst (J0.map V.str))) m2 (.lst (J4.map V.str))) m3 (.lst (J5.map V.str))) m1 m2 m3 d ts J0 J4 J5 ds:=⟨kp (kp aa k2) k3,kp aa k3,aa,T3 _ _ d8,D8.kt (ae.kt T3)⟩;generalize upd (upd (upd H8 m1 (.lst (J0.map V.str))) m2 (.lst (J4.map V.str))) m3 (.lst (J5.map V.str))=H9 at T3 L9 ⊢;have S09:ae H H9:=((S04.trans S7).trans S8).trans T3;exact⟨_,rfl,m1,m2,m3,d,ts,J0,J4,J5,ds,o,rfl,L9,F,sg,v,fun ho r H' hr S'=>ko ho r m1 m2 m3 d ts H' hr (L9.same S') (S09.trans S'),fun p n ho t H' ht S'=>ke p n ho t H' ht (S09.trans S')⟩
inductive iZ(vs:List V)(H:Hp)(Q:VK)(E:XK):Prop
 |mk (p c:Addr):(vs=[.ref p])->(gU H p c)->(∀(ch:Nat) (H':Hp),gU H' p c->dO p H H'->Q (.str ⟨#[ch]⟩) H')->iZ vs H Q E
theorem Bd{z:Str}{r:Int}(h0:0<=r)(h1:r<z.length):∃ch,xJ z.cps.toList r=some ch:=by
 obtain⟨n,rfl⟩:=je h0;rw[br]at h1;exact⟨_,cf (fh (by omega))⟩
theorem yM:(" \nabz":Str).length=5:=by decide +kernel
theorem Eo:(Ep++Hn).length<=200/\0<(Ep++Hn).length/\Ep.length+Hn.length<=200:=by decide +kernel
theorem yi{K:Za}{vs:List V}{H:Hp}{Q:VK}{E:XK}(h:iZ vs H Q E):qx K eX iI (bT Q) (start qO vs) H:=by
 obtain⟨p,c,rfl,hp,k⟩:=h;refine⟨_,rfl,dC hp (by decide) (by decide) fun r H1 r0 r1 hp1 ex1=>⟨rfl,_,rfl,?_⟩⟩;refine eA (fun _=>?_) (fun _=>?_)
 ·refine⟨_,rfl,dC hp1 (by decide) (by decide) fun r2 H2 a0 a1 hp2 ex2=>?_⟩;obtain⟨ch,hc⟩:=Bd (z:=" \nabz") a0 (by rw[yM];omega);exact⟨_,r2,ch,rfl,rfl,by rw[yM];decide,hc,k ch H2 hp2 (ex1.trans ex2)⟩
 ·obtain⟨q1,q2,q3⟩:=Eo;refine⟨_,rfl,(),rfl,Ep,Hn,rfl,rfl,ei (aW (by omega)),?_⟩;refine⟨_,rfl,_,rfl,_,rfl,.inr ⟨_,rfl,ei (aW (by omega)),?_⟩⟩;refine dC hp1 (by omega) (by omega) fun r2 H2 a0 a1 hp2 ex2=>?_;obtain⟨ch,hc⟩:=Bd (z:=Ep++Hn) a0 a1;exact⟨_,r2,ch,rfl,rfl,ei (aW (by omega)),hc,k ch H2 hp2 (ex1.trans ex2)⟩
inductive kO(vs:List V)(H:Hp)(Q:VK)(E:XK):Prop
 |mk (p c:Addr) (x:Str):(vs=[.ref p,.str x])->(gU H p c)->(x.length<=1000000)->(∀(y:Str) (H':Hp),JP x.cps.toList y.cps.toList->gU H' p c->dO p H H'->Q (.str y) H')->kO vs H Q E
theorem DW{K:Za}{vs:List V}{H:Hp}{Q:VK}{E:XK}(h:kO vs H Q E):qy K iZ eX (bT Q) (start qQ vs) H:=by
 obtain⟨p,c,x,rfl,hp,hx,k⟩:=h;have xs:x.length<=aj:=bj (bj hx (by decide)) sZ;refine⟨_,rfl,_,rfl,.inr ⟨_,rfl,xs,_,_,rfl,rfl,?_⟩⟩;refine dC hp (by omega) (by omega) fun a H1 a0 a1 hp1 ex1=>?_;obtain⟨n,rfl⟩:=je a0;have len:x.length=x.cps.toList.length:=br x;have hn:n<=x.cps.toList.length:=by omega
 have l1:(mP x none (some (n:Int))).length=n:=by rw[br,pO,aP];omega
 have l2:(mP x (some (n:Int)) none).length=x.length-n:=by rw[br,ln,fm,len]
 have l3:(mP x (some ((n:Int)+1)) none).length=x.length-(n+1):=by rw[show(n:Int)+1=((n+1:Nat):Int)from rfl,br,ln,fm,len]
 have c3:(mP x (some ((n:Int)+1)) none).cps.toList=(x.cps.toList.drop n).drop 1:=by rw[show(n:Int)+1=((n+1:Nat):Int)from rfl,ln,List.drop_drop]
 have k1:=sZ;refine⟨_,rfl,dC hp1 (by decide) (by decide) fun w H2 w0 w1 hp2 ex2=>?_⟩;refine⟨_,rfl,rfl,_,rfl,?_⟩;refine eA (fun _=>?_) (fun _=>?_)
 ·refine⟨_,rfl,_,rfl,_,rfl,x,rfl,xs,_,rfl,_,rfl,_,_,rfl,rfl,_,rfl,x,rfl,xs,_,_,rfl,rfl,by omega,?_⟩;refine k _ H2 ⟨x.cps.toList.take n,x.cps.toList.drop n,(rJ _ _).symm,.inl ?_⟩ hp2 (ex1.trans ex2);rw[cU,pO,c3]
 ·refine⟨_,rfl,p,c,rfl,hp2,fun ch H3 hp3 ex3=>?_⟩;have ex:=(ex1.trans ex2).trans ex3;have lc:(⟨#[ch]⟩:Str).length=1:=rfl;refine⟨_,rfl,rfl,_,rfl,?_⟩;refine eA (fun _=>?_) (fun _=>?_)
  ·refine⟨_,rfl,_,rfl,_,rfl,x,rfl,xs,_,rfl,_,_,rfl,rfl,by omega,_,rfl,_,rfl,_,rfl,x,rfl,xs,_,_,rfl,rfl,by rw[fB];omega,?_⟩;refine k _ H3 ⟨x.cps.toList.take n,x.cps.toList.drop n,(rJ _ _).symm,.inr ⟨ch,.inl ?_⟩⟩ hp3 ex;rw[cU,cU,pO,ln,dA];rfl
  ·refine⟨_,rfl,_,rfl,_,rfl,x,rfl,xs,_,rfl,_,_,rfl,rfl,by omega,_,rfl,_,rfl,_,_,rfl,rfl,_,rfl,x,rfl,xs,_,_,rfl,rfl,by rw[fB];omega,?_⟩;refine k _ H3 ⟨x.cps.toList.take n,x.cps.toList.drop n,(rJ _ _).symm,.inr ⟨ch,.inr ?_⟩⟩ hp3 ex;rw[cU,cU,pO,c3,dA];rfl
structure RtC(K:Za)(Cx Cn:Addr):Prop where
 x:XC K Cx
 n:j3 K Cn
 na:c9 K Cn "number"
 self:vv K (.ref Cn) (.ref Cn)=some true
 no:vv K (.ref Cx) (.ref Cn)=some false
theorem HL{K:Za}{mg:Str->Option Value}{x y:Str}{Ct Cx Cn:Addr}(c:XC K Cx)(hx:XX K mg x Cx Ct)(hn:XX K mg y Cn Ct)(na:c9 K Cn "number")(nd:[Ct,Cx,Cn].Nodup):RtC K Cx Cn:=by
 have q:Cn≠Ct/\Cn≠Cx:=by refine⟨?_,?_⟩<;>(intro e;simp[e]at nd)
 exact⟨c,hn.cls,na,by rw[hn.exm hn q.1,zzr1 rfl],by rw[hx.exm hn q.1,zzr0 q.2]⟩
theorem wm{K:Za}{C Cx Cn:Addr}(F:RtC K Cx Cn){vs:List V}{H:Hp}{Q:VK}{E:XK}(h:dS vs H Q E):oZ K C (kN C) (jw C) (lJ C) (lM C) (jx C Cx Cn) Cx Cn (bT Q) (start qP vs) H:=by
 obtain⟨x,rfl,tb,kn,km⟩:=h;refine⟨_,rfl,x,rfl,tb,fun n hn e H1 xe=>?_,fun J0 J4 J5 ds re er sg fw zd tv=>?_⟩
 ·obtain⟨S1,d,ha,hd⟩:=xe;refine⟨Cn,e,true,rfl,rfl,F.self,bE ?_⟩;refine⟨_,rfl,e,Cn,d,_,_,rfl,ha,hd,F.n,F.na,rfl,(by show 2<=aj;decide),fun t ht=>?_⟩;refine⟨_,rfl,_,rfl,?_⟩;rw[zzr1 rfl];exact bE ⟨_,rfl,kn n hn t _ aa (S1.trans (ae.new ht))⟩
 obtain⟨o,v,ko,ke⟩:=km J0 J4 J5 ds re er sg fw zd tv;refine⟨o,v,fun ho y H1 mb S1=>?_,fun p n ho a H1 xa S1=>?_⟩;rotate_left
 ·obtain⟨d,ha,hd⟩:=xa.at_;refine⟨Cx,a,false,rfl,rfl,F.no,bu ⟨Cx,a,true,rfl,rfl,F.x.self,bE ?_⟩⟩;refine⟨_,rfl,a,Cx,d,_,_,rfl,ha,hd,F.x.cls,F.x.p,rfl,?_⟩;refine⟨_,rfl,a,Cx,d,_,_,rfl,ha,hd,F.x.cls,F.x.n,rfl,(by show 2<=aj;decide),fun t ht=>?_⟩;refine⟨_,rfl,_,rfl,?_⟩;rw[zzr1 rfl];exact bE ⟨_,rfl,ke p n ho t _ aa (S1.trans (ae.new ht))⟩
 subst ho;have M:fx C H1 y J0 J4 J5 ds:=mb.ok (v.ok (by omega));refine⟨_,rfl,_,rfl,?_⟩;rw[zzr0 (by intro z;cases z)];refine bu ?_;obtain⟨dx,fs,o1,o2,o3,o4,lv,qu,sg',sl,ts,lps,gps,sps,g1,_,_,_,a4,b1,b2,b3,b4,b5,b6,b7,b8,LL,_⟩:=id M.at_;obtain⟨dx',fs',g1',e1,e2,e3,_⟩:=id M.more;rw[g1]at g1';cases g1';refine⟨_,rfl,y,dx,fs,rfl,g1,e1,y,J0,J4,J5,ds,rfl,M,fun r1 k1=>?_⟩;have T1:ae H1 (upd H1 r1 (.lst (J0.map V.str))):=ae.new k1;refine⟨_,rfl,y,dx,fs,rfl,T1 _ _ g1,e2,y,J0,J4,J5,ds,rfl,M.same T1,fun r2 k2=>?_⟩;have T2:=T1.trans (ae.new (o:=.lst (J4.map V.str)) k2);refine⟨_,rfl,y,dx,fs,rfl,T2 _ _ g1,a4,y,J0,J4,J5,ds,rfl,M.same T2,fun r3 k3=>?_⟩;have T3:=T2.trans (ae.new (o:=.lst (J5.map V.str)) k3);refine⟨_,rfl,y,dx,fs,rfl,T3 _ _ g1,e3,y,dx,o4,fs,ts,rfl,T3 _ _ g1,b4,T3 _ _ LL.a4,fun r4 k4=>?_⟩;have T4:=T3.trans (ae.new (o:=.lst (ts.map V.ref)) k4);refine⟨(by show 4<=aj;decide),fun r kr=>?_⟩;have T5:=T4.trans (ae.new (o:=.lst [.ref r1,.ref r2,.ref r3,.ref r4]) kr);refine ko rfl r r1 r2 r3 r4 ts _ aa ⟨?_,?_,?_,?_,LL.ds.kt (ae.kt T5)⟩ (S1.trans T5)
 ·exact kp (kp (kp (kp aa k2) k3) k4) kr
 ·exact kp (kp (kp aa k3) k4) kr
 ·exact kp (kp aa k4) kr
 ·exact kp aa kr
theorem yP{d e:aq}(h:aI d=aI e):d=e:=by
 unfold aI at h;rw[jL,jL]at h;injection h with h1 h2;obtain⟨h3,h4⟩:=List.append_inj' h2 rfl;have h4:d.b=e.b:=by simpa using h4
 cases d;cases e;simp only at h1 h3 h4;rw[h1,h3,h4]
theorem mG{a s r a' s' r':Zb}{d d':List aq}(h:bt a s r d=bt a' s' r' d'):a=a'/\s=s'/\r=r'/\d=d':=by
 unfold bt aU at h;rw[jL,jL,jL,List.nil_append,jL,jL,jL,List.nil_append]at h;injection h with h1 h;injection h with h2 h;injection h with h3 h;injection h1 with _ h1;injection h2 with _ h2;injection h3 with _ h3;refine⟨h1,h2,h3,?_⟩;have:∀{d d':List aq},d.map aI=d'.map aI->d=d':=by
  intro d
  induction d with
  |nil=>intro d' h;cases d' with
   |nil=>rfl
   |cons _ _=>cases h
  |cons x d ih=>intro d' h;cases d' with
   |nil=>cases h
   |cons y d'=>rw[bf,bf]at h;injection h with h1 h2;rw[yP h1,ih h2]
 exact this h
theorem Do{J0 J4 J5:Zb}{ds:List aq}(m:cg J0 J4 J5 ds)(h5:J5.length<=5)(h6:ds.length<=600):TB 53 5 603 820080 (dj (bt J0 J4 J5 ds)).cps.toList:=by
 have rl:=yf J0 J4 J5 ds;have six:∀r∈bt J0 J4 J5 ds,r.length<=6:=fun r hr=>by
  rcases bJ.mp hr with h|h
  ·have:=m.asks4;have:=m.says4;unfold aU at h;simp only[bw,jh,or_false]at h;rcases h with rfl|rfl|rfl<;>(rw[cw];omega)
  ·obtain⟨d,hd,rfl⟩:=aO.mp h;have:d.sg.length<=2:=by
    rcases(m.good d hd).sg with⟨_,_,e⟩|⟨_,_,e⟩|e<;>rw[e]<;>simp[aG]
   unfold aI;simp;omega
 have free:∀(c:Nat),(∀r∈bt J0 J4 J5 ds,∀w∈r,c∉w.cps.toList)->∀r∈bt J0 J4 J5 ds,∀a∈r.map (·.cps.toList),c∉a:=fun c h r hr a ha=>by
  obtain⟨w,hw,rfl⟩:=aO.mp ha;exact h r hr w hw
 have f10:=free 10 fun r hr w hw=>(m.pl r hr w hw).nl;have f32:=free 32 fun r hr w hw=>(m.pl r hr w hw).sp;have e:(dj (bt J0 J4 J5 ds)).cps.toList=(((bt J0 J4 J5 ds).map fun r=>(gh r).cps.toList).map fun a=>a++[10]).flatten:=by rw[uL,dR];rfl
 have rc:∀r:List Str,(gh r).cps.toList=jn 32 (r.map (·.cps.toList)):=fun r=>by unfold gh;rw[DC,yH]
 have nl:∀a∈(bt J0 J4 J5 ds).map (fun r=>(gh r).cps.toList),10∉a:=fun a ha=>by
  obtain⟨r,hr,rfl⟩:=aO.mp ha;show 10∉(gh r).cps.toList;rw[rc];exact Bx (by decide) (f10 r hr)
 refine⟨?_,?_,?_,?_⟩
 ·rw[e];refine wE fun a ha=>⟨nl a ha,?_⟩;obtain⟨r,hr,rfl⟩:=aO.mp ha;rw[Bb,<-br];have q:=six r hr;have w8:=(m.rows r hr).2;unfold gh;cases r with
  |nil=>exact bR _
  |cons y ys =>
   have h1:=gq ys y fun w hw=>w8 w (cj _ hw);have h2:=w8 y cp;rw[cw]at q;show(ys.foldl (fun(a p:Str)=>a++(" ":Str)++p) y).length<=53;omega
 ·rw[e];refine wE fun a ha=>⟨nl a ha,?_⟩;obtain⟨r,hr,rfl⟩:=aO.mp ha;show(((gh r).cps.toList).map Am).sum<=5;rw[Dz,rc];have q:=six r hr;have:=oj (c:=32) (ls:=r.map (·.cps.toList)) (fun z=>cg.rows0 r hr (rE.mp z)) (f32 r hr);rw[am]at this;omega
 ·rw[e];have:∀ls:List (List Nat),(∀a∈ls,10∉a)->((ls.map fun a=>a++[10]).flatten).count 10=ls.length:=by
   intro ls
   induction ls with
   |nil=>intro _;rfl
   |cons a ls ih =>
    intro h;rw[bf,List.flatten_cons,rD,rD,ih fun x hx=>h x (cj _ hx),List.count_eq_zero_of_not_mem (h a cp),cw];simp;omega
  rw[this _ nl,am];omega
 ·have:=sj m.rows;rw[<-br];omega
theorem Bk{K:Za}{H:Hp}{t u:Addr}{p:Str}{n:Nat}{Q:VK}{E:XK}(h:H t=some (.tup [.str p,.int (n:Nat)]))(g:H u=some (.tup [.str p,.int (n:Nat)]))(k:∀H',ae H H'->Q (.bl true) H'):dF K 4 [.ref t,.ref u] H Q E :=
 pf (Hh h) (Hh g) (show(1:Nat)<=4 by decide) (by decide) rfl k
theorem z8{K:Za}{H:Hp}{t u l1 l2 l3 l4 m1 m2 m3 m4:Addr}{ts us:Ze}{J0 J4 J5:Zb}{ds:List aq}{Q:VK}{E:XK}(F:Fz J0 J4 J5 ds)(sg:Fs ds)(h:H t=some (.lst [.ref l1,.ref l2,.ref l3,.ref l4]))(L:Lists H l1 l2 l3 l4 ts J0 J4 J5 ds)(g:H u=some (.lst [.ref m1,.ref m2,.ref m3,.ref m4]))(M:Lists H m1 m2 m3 m4 us J0 J4 J5 ds)(k:∀H',ae H H'->Q (.bl true) H'):dF K 4 [.ref t,.ref u] H Q E :=
 pf (d:=.s (pr J0 J4 J5 ds)) (L.dr h) (M.dr g) (by show DT.depths _+1<=4;have:=wZ J0 J4 J5 ds;omega) (by decide) (DD F fun d hd=>by have:=sg d hd;omega) k
inductive sp_law89(K:Za)(vs:List V)(H:Hp)(Q:VK)(E:XK):Prop
 |mk (a:Addr) (ns:List Int):(vs=[.ref a])->(aA K H a (ns.map V.int))->(ns.length<=63)->(∀H',Q (.bl true) H')->sp_law89 K vs H Q E
theorem DQ{K:Za}{C Cx Cn:Addr}{vs:List V}{H:Hp}{Q:VK}{E:XK}(h:sp_law89 K vs H Q E):FP K (dF K 4) (iH K C) (jx C Cx Cn) dS dS eX kO (jP K) nI (qY K) (bT Q) (start BV vs) H:=by
 obtain⟨a,ns,rfl,hs,hn,k⟩:=h;refine⟨_,rfl,a,ns,rfl,hs,hn,fun p c H1 _ hp1 S1=>?_⟩;refine⟨_,rfl,_,rfl,dC hp1 (by decide) (by decide) fun full H2 f0 f1 hp2 ex2=>?_⟩;refine⟨p,c,5,full,rfl,hp2,by decide,by decide,f0,by omega,fun t l1 l2 l3 l4 ts J0 J4 J5 ds H3 T m zr zd hp3 ex3=>?_⟩;refine B7 T m fun H4 S4=>?_;have tb0:=Do m zr zd;refine⟨_,rfl,dC (hp3.ex S4) (by decide) (by decide) fun r5 H5 _ _ hp5 ex5=>⟨rfl,_,rfl,?_⟩⟩;have key:∀x:Str,TB 53 5 603 820080 x.cps.toList->(ax (fJ (s_ (aE (aR eX (ba V1 (tC (.int 5)))))) U3 (aV (aR kO (ba V1 V2)) U2))
  (ax (aV (aR dS (aE V2)) U4)
  (ax (cG (sw (tB (aR (dF K 4) (ba (aR dS (aE V2)) V4)))) (aZ (tC (.bl false))) (bo))
  (ax (cG (tB (dD (nQ K) (ba V4 (tC (.ty "tuple"))))) (aZ (tC (.bl true))) (bo))
  (aZ (aR (dF K 4) (ba (aR (iH K C) (aE (aR (jx C Cx Cn) (aE V2)))) V2))))))) (bT Q) [some (.ref a),some (.ref p),some (.str x),none,none] H5:=by
  intro x tb;refine⟨_,rfl,dC hp5 (by decide) (by decide) fun r6 H6 r0 r1 hp6 ex6=>?_⟩;obtain⟨tn,rfl⟩:=je r0;refine⟨tn,rfl,by omega,by omega,lS (lo:=0) (n:=((tn:Int)).toNat) (fun i σ H'=>∃y z,σ=[some (.ref a),some (.ref p),some (.str y),z,none]/\gU H' p c/\TB (54 * 2 ^ i-1) (6 * 2 ^ i-1) (603+i) (820080+i) y.cps.toList)
   ⟨x,_,rfl,hp6,tb⟩ ?_ ?_⟩
  ·rintro i σ H' hi ⟨y,z,rfl,hp,tb⟩;have zy:=tb.all;rw[<-br]at zy;refine⟨_,rfl,_,rfl,p,c,y,rfl,hp,by omega,fun y' H7 ed hp7 ex7=>⟨y',_,rfl,hp7,(tb.edit ed).mono ?_ ?_ (by omega) (by omega)⟩⟩
   ·have:1<=2 ^ i:=Nat.one_le_two_pow;rw[Nat.pow_succ];omega
   ·have:1<=2 ^ i:=Nat.one_le_two_pow;rw[Nat.pow_succ];omega
  ·rintro σ H7 ⟨x,z,rfl,hp7,tb⟩;have tb:GK x:=by
    have h4:(tn:Int).toNat<=4:=by omega
    have h16:2 ^ (tn:Int).toNat<=16:=Nat.pow_le_pow_right (by decide) h4;exact tb.mono (by omega) (by omega) (by omega) (by omega)
   refine⟨_,rfl,x,rfl,tb,fun n hn t H8 ht S8=>?_,fun J0 J4 J5 ds re er sg fw zd tv=>?_⟩
   ·refine⟨_,rfl,x,rfl,tb,fun n' hn' t' H9 ht' S9=>?_,fun _ _ _ _ _ _ _ _ _ tv=>by rw[hn]at tv;cases tv⟩;rw[hn]at hn';cases hn';refine⟨_,rfl,Bk ht' (S9 _ _ ht) fun H10 S10=>⟨_,rfl,bu ?_⟩⟩;exact⟨_,rfl,_,"tuple",.type "tuple",true,rfl,.inr (.inl ⟨t,_,rfl,rfl,b_.of (S10 _ _ (S9 _ _ ht))⟩),rfl,_,rfl,bE (k _)⟩
   obtain⟨o,v⟩:=zj J0 J4 J5 ds;refine⟨o,v,fun ho r q1 q2 q3 q4 us H8 hr L8 S8=>?_,fun pt n ho t H8 ht S8=>?_⟩
   ·subst ho;refine⟨_,rfl,x,rfl,tb,(fun n hn=>by rw[tv]at hn;cases hn),fun asks' says' rooms' ds' _ er' _ _ _ _=>?_⟩;obtain⟨rfl,rfl,rfl,rfl⟩:=mG (er.symm.trans er');refine⟨none,v,fun _ r' q1' q2' q3' q4' us' H9 hr' L9 S9=>?_,fun p n e=>by cases e⟩;refine⟨_,rfl,z8 fw sg hr' L9 (S9 _ _ hr) (L8.same S9) fun H10 S10=>⟨_,rfl,bu ?_⟩⟩;refine⟨_,rfl,_,"tuple",.type "list",false,rfl,.inr (.inr ⟨r,_,rfl,rfl,aA.of (S10 _ _ (S9 _ _ hr))⟩),rfl,_,rfl,bu ?_⟩;refine⟨_,rfl,x,rfl,tb,(fun n hn=>by rw[tv]at hn;cases hn),fun asks' says' rooms' ds' _ er' _ _ _ _=>?_⟩;obtain⟨rfl,rfl,rfl,rfl⟩:=mG (er.symm.trans er');refine⟨none,v,fun _ y H11 mb S11=>?_,fun p n e=>by cases e⟩;refine FT (mb.ok (v.ok (by omega))) fun H12 S12=>?_;rw[<-er,B9 re];exact⟨_,rfl,DE fun H13 _=>k H13⟩
   ·refine⟨_,rfl,x,rfl,tb,(fun n hn=>by rw[tv]at hn;cases hn),fun asks' says' rooms' ds' _ er' _ _ _ _=>?_⟩;obtain⟨rfl,rfl,rfl,rfl⟩:=mG (er.symm.trans er');refine⟨o,v,(fun e=>by rw[ho]at e;cases e),fun p' n' e t' H9 ht' S9=>?_⟩;rw[ho]at e;cases e;refine⟨_,rfl,Bk ht' (S9 _ _ ht) fun H10 S10=>⟨_,rfl,bu ?_⟩⟩;exact⟨_,rfl,_,"tuple",.type "tuple",true,rfl,.inr (.inl ⟨t,_,rfl,rfl,b_.of (S10 _ _ (S9 _ _ ht))⟩),rfl,_,rfl,bE (k _)⟩
 refine eA (fun _=>key "" ⟨bR _,bR _,bR _,bR _⟩) (fun _=>key _ tb0)
def gJ(i:Nat):Stmt:=PySem.Challenge.pw_mumtrial_k89_whole_texts.main.body.getD i (.Pass ⟨0,0,0,0⟩)
local macro_rules | `(tactic| walk_at "s")=>`(tactic| exact⟨rfl,rfl,rfl,by decide +kernel,rfl,by decide +kernel,by decide +kernel⟩)
local macro_rules | `(tactic| walk_at "l")=>`(tactic| (intro _ _ _ _ h;first|exact Ju h|exact len_g h|(cases h;subst_vars;rfl)|(obtain⟨_,_,h,_⟩:=h;subst h;rfl)|((repeat obtain⟨_,h⟩:=h);subst_vars;rfl)))
theorem zzlS{us:List Value}{n:Nat}(h:us.length=n+1):∃ a t,us=a::t∧t.length=n:=by
  cases us with
  |nil=>cases h
  |cons a t=>exact⟨a,t,rfl,Nat.succ.inj h⟩
local macro_rules | `(tactic| walk_at "b")=>`(tactic| (intro _ _ _ _ _ _ us hl;(repeat (have h:=zzlS hl;clear hl;obtain⟨_,_,e,hl⟩:=h;subst e));cases List.eq_nil_of_length_eq_zero hl;rfl))
def JO(K:Za)(x qual:Str)(st:Stmt)(f:Addr):Prop:=∃(oc:Value) (od an:Option Addr) (sl:Array (Option Value)) (kV dc pm cd ct:Value),
 K.lookup f=some ⟨oc,od,.func (iy x qual (ig st) (fc st) (bq st) .none kV dc pm an cd ct),sl⟩/\mz K cd qual=true/\eh K (.ref f)=true
theorem E_{K:Za}{x qual:Str}{st:Stmt}{f:Addr}{oc:Value}{od an:Option Addr}{sl:Array (Option Value)}{kV dc pm cd ct:Value}(l:K.lookup f=some ⟨oc,od,.func (iy x qual (ig st) (fc st) (bq st) .none kV dc pm an cd ct),sl⟩)
  (c:mz K cd qual=true) (k:eh K (.ref f)=true):JO K x qual st f:=⟨oc,od,an,sl,kV,dc,pm,cd,ct,l,c,k⟩
def iP(K:Za)(x:Str)(st:Stmt):Prop:=∃f,cF K bV x=some (some (.ref f))/\JO K x x st f
theorem fnG_mk{K:Za}{x:Str}{st:Stmt}{f:Addr}{oc:Value}{od an:Option Addr}{sl:Array (Option Value)}{kV dc pm cd ct:Value}(a:cF K bV x=some (some (.ref f)))(l:K.lookup f=some ⟨oc,od,.func (iy x x (ig st) (fc st) (bq st) .none kV dc pm an cd ct),sl⟩)
  (c:mz K cd x=true) (k:eh K (.ref f)=true):iP K x st:=⟨f,a,E_ l c k⟩
def C_(K:Za)(C:Addr)(m qual:Str)(st:Stmt):Prop:=∃f,bW K (.ref C) m=some (some (.ref f))/\m8 K (.ref f)=true/\JO K m qual st f
theorem fnM_mk{K:Za}{C:Addr}{m qual:Str}{st:Stmt}{f:Addr}{oc:Value}{od an:Option Addr}{sl:Array (Option Value)}{kV dc pm cd ct:Value}(a:bW K (.ref C) m=some (some (.ref f)))(i:m8 K (.ref f)=true)
  (l:K.lookup f=some ⟨oc,od,.func (iy m qual (ig st) (fc st) (bq st) .none kV dc pm an cd ct),sl⟩) (c:mz K cd qual=true) (k:eh K (.ref f)=true):C_ K C m qual st:=⟨f,a,i,E_ l c k⟩
theorem JO.fun_{K:Za}{x qual:Str}{st:Stmt}{f:Addr}(T:JO K x qual st f):∃fd,Hu K x qual st f fd:=by
 obtain⟨oc,od,an,sl,kV,dc,pm,cd,ct,l,c,k⟩:=T;exact⟨_,EZ (st:=st) l c k⟩
def Jh:Sp:=fun _ _ _ _=>False
theorem Jr{P:bB}{w:World}{K:Za}{mg:Str->Option Value}{base:Heap}{k:Nat}{f:Addr}{fd:hZ}{ps:Zb}:ik P w K mg base CX0 k f fd ps Jh:=⟨fun _ _ _ _ h=>h.elim,fun _ _ _ _ _ _ _ _ _ _ _ _ _ h=>h.elim⟩
def II(K:Za)(a:Addr)(ws:Zb):Prop:=∀H,b_ K H a (ws.map V.str)
theorem A5{K:Za}{a:Addr}{ws:Zb}{o:Obj}{its:Array Value}{n:Nat}(l:K.lookup a=some o)(c:o.cls=.type "tuple")(d:o.data=.seq its n)(z:its.size<=aj)(v:bg (ws.map V.str) its.toList):II K a ws :=
 fun _=>.inr ⟨o,its,n,l,c,d,z,v⟩
section
variable{P:bB}{w:World}{K:Za}{mg:Str->Option Value}{base h:Heap}{C:Addr}{x qual:Str}{st:Stmt}{N ps:Zb}{k:Nat}{sp:Sp}
abbrev vi(ps:Zb)(sp:Sp):Prop:=∀vs H Q E,sp vs H Q E->vs.length=ps.length
abbrev BodyOk(CX:C6)(P:bB)(w:World)(K:Za)(mg:Str->Option Value)(base:Heap)(qual:Str)(st:Stmt)(N:Zb)(k:Nat)(sp:Sp)(nox:Cx->Cx):Prop:=N.Nodup->∀(f:Addr) (cdv:Value) (A:Around) (outer:List Env) (s:Shared) (H:Hp) (vs:List V) (Q:VK) (E:XK),du k (A.deeper (envOfC qual (bq st) s.heap.objs.size f cdv))->(A.deeper (envOfC qual (bq st) s.heap.objs.size f cdv)).units+16<cLine->sp vs H Q E ->
 ∃t,xy (nox (tG CX P w K mg base N qual (bq st) f cdv A outer s H E)) (fc st) t/\t (bT Q) (start N vs) H
abbrev pW(x qual:Str)(st:Stmt)(ps:Zb):Prop:=∀(kV doc pm:Value) (an:Option Addr) (cdv ct:Value) (us:Zf),us.length=ps.length->bindArgs (iy x qual (ig st) (fc st) (bq st) .none kV doc pm an cdv ct) ⟨us,[]⟩=pure (ps.zip us)
theorem dG(X:K.In h)(G:h.Ns bV mg)(T:iP K x st)(b:BodyOk CX0 P w K mg base x st N k sp Cx.nox)(bi:pW x x st ps)(S:fX N ps (bq st):=by walk_at "s")(l:vi ps sp:=by walk_at "l"):iT P w K mg base x ps (k+1) sp:=by
 obtain⟨f,a,t⟩:=T;obtain⟨fd,F⟩:=t.fun_;exact⟨f,fd,F.ok S l fun cdv A outer s H vs Q E hr h=>b S.nd f cdv A outer s H vs Q E hr (tf hr) h,eO X G a,F.kp,F.binds bi⟩
theorem dM(cl:Db K C)(T:C_ K C x qual st)(b:BodyOk CX0 P w K mg base qual st N k sp Cx.nox)(bi:pW x qual st ps)(S:fX N ps (bq st):=by walk_at "s")(l:vi ps sp:=by walk_at "l"):IQ P w K mg base C x ps (k+1) sp:=by
 obtain⟨f,a,i,t⟩:=T;obtain⟨fd,F⟩:=t.fun_;exact⟨f,fd,F.ok S l fun cdv A outer s H vs Q E hr h=>b S.nd f cdv A outer s H vs Q E hr (tf hr) h,cl,⟨a,i,F.kp⟩,F.binds bi⟩
theorem dN{y:Str}(cm:mg y=some (.ref C))(mk:uC K C=true)(kc:eh K (.ref C)=true)(T:C_ K C "__init__" qual st)(b:BodyOk CX0 P w K mg base qual st N k sp Cx.nox)(bi:pW "__init__" qual st ps)(S:fX N ps (bq st):=by walk_at "s")(l:vi ps sp:=by walk_at "l"):New P w K mg base y C ps (k+1) sp:=by
 obtain⟨f,a,i,t⟩:=T;obtain⟨fd,F⟩:=t.fun_;exact⟨f,fd,F.ok S l fun cdv A outer s H vs Q E hr h=>b S.nd f cdv A outer s H vs Q E hr (tf hr) h,cm,⟨mk,a,i,kc⟩,F.binds bi⟩
theorem J9(X:K.In h)(G:h.Ns bV mg)(T:iP K x st)(b:BodyOk (BW P w K) P w K mg base x st N k sp id)(bi:pW x x st ps)(S:fX N ps (bq st):=by walk_at "s")(l:vi ps sp:=by walk_at "l"):y9 P w K mg base x ps (k+1) sp:=by
 obtain⟨f,a,t⟩:=T;obtain⟨fd,F⟩:=t.fun_;exact⟨f,fd,F.okX S l fun cdv A outer s H vs Q E hr h=>b S.nd f cdv A outer s H vs Q E hr (tf hr) h,eO X G a,F.kp,F.binds bi⟩
theorem dNX{y:Str}(cm:mg y=some (.ref C))(mk:uC K C=true)(kc:eh K (.ref C)=true)(T:C_ K C "__init__" qual st)(b:BodyOk (BW P w K) P w K mg base qual st N k sp id)(bi:pW "__init__" qual st ps)(S:fX N ps (bq st):=by walk_at "s")(l:vi ps sp:=by walk_at "l"):IN P w K mg base y C ps (k+1) sp:=by
 obtain⟨f,a,i,t⟩:=T;obtain⟨fd,F⟩:=t.fun_;exact⟨f,fd,F.okX S l fun cdv A outer s H vs Q E hr h=>b S.nd f cdv A outer s H vs Q E hr (tf hr) h,cm,⟨mk,a,i,kc⟩,F.binds bi⟩
theorem dXN{y:Str}(cm:mg y=some (.ref C))(xc:j3 K C)(kc:eh K (.ref C)=true)(T:C_ K C "__init__" qual st)(b:BodyOk CX0 P w K mg base qual st N k sp Cx.nox)(bi:pW "__init__" qual st ps)(S:fX N ps (bq st):=by walk_at "s")(l:vi ps sp:=by walk_at "l"):Fq P w K mg base y C ps (k+1) sp:=by
 obtain⟨f,a,i,t⟩:=T;obtain⟨fd,F⟩:=t.fun_;exact⟨f,fd,F.ok S l fun cdv A outer s H vs Q E hr h=>b S.nd f cdv A outer s H vs Q E hr (tf hr) h,cm,xc,a,i,kc,F.binds bi⟩
end
structure Zs(mg:Str->Option Value):Prop where
 all:mg "all"=none
 bool:mg "bool"=none
 dict:mg "dict"=none
 enumerate:mg "enumerate"=none
 int:mg "int"=none
 isinstance:mg "isinstance"=none
 len:mg "len"=none
 list:mg "list"=none
 range:mg "range"=none
 str:mg "str"=none
 tuple:mg "tuple"=none
 zip:mg "zip"=none
structure Cs(K:Za)(mg:Str->Option Value)(C Cx Ct a_STILL a_HEADS C_NoText:Addr):Prop where
 LETTERS:Gc mg "LETTERS" (.str "abcdefghijklmnopqrstuvwxyz")
 LONGEST_NAME:Gc mg "LONGEST_NAME" (.int 8)
 MOST_WORDS:Gc mg "MOST_WORDS" (.int 4)
 MOST_ROOMS:Gc mg "MOST_ROOMS" (.int 150)
 MOST_DOORS:Gc mg "MOST_DOORS" (.int 2000)
 STILL:Gc mg "STILL" (.ref a_STILL)
 HEADS:Gc mg "HEADS" (.ref a_HEADS)
 still:II K a_STILL aG
 heads:II K a_HEADS eZ
 mc:MC K C
 cm:mg "Machine"=some (.ref C)
 makes:uC K C=true
 kc:eh K (.ref C)=true
 xc:XC K Cx
 xb:Hq K Ct
 NoMachine:mg "NoMachine"=some (.ref Cx)
 TrialError:mg "TrialError"=some (.ref Ct)
 kx:eh K (.ref Cx)=true
 xt:XO K Ct jO
 xg:XG K
 x_NoMachine:XX K mg "NoMachine" Cx Ct
 nd:[Ct,Cx,C_NoText].Nodup
 x_NoText:XX K mg "NoText" C_NoText Ct
 na_NoText_number:c9 K C_NoText "number"
structure Ts(K:Za)(C Cx C_NoText:Addr):Prop where
 f_law_spread:iP K "_law_spread" (gJ 36)
 f_law_open:iP K "_law_open" (gJ 37)
 f_law_anew:iP K "_law_anew" (gJ 38)
 f_law_take:iP K "_law_take" (gJ 39)
 f_law_names:iP K "_law_names" (gJ 40)
 f_law_put:iP K "_law_put" (gJ 42)
 f_law_draw_doors:iP K "_law_draw_doors" (gJ 43)
 f_law_model:iP K "_law_model" (gJ 44)
 f_law_still_on:iP K "_law_still_on" (gJ 41)
 f_NoMachine_init:C_ K Cx "__init__" "NoMachine.__init__" (jY (gJ 3) 0)
 f_is_name:iP K "is_name" (gJ 12)
 f_as_keys:iP K "as_keys" (gJ 13)
 f_first_wrong_name:iP K "first_wrong_name" (gJ 14)
 f_door_signs:iP K "door_signs" (gJ 15)
 f_first_wrong_door:iP K "first_wrong_door" (gJ 16)
 f_goals_by_start_and_sign:iP K "goals_by_start_and_sign" (gJ 17)
 f_led_by_still:iP K "led_by_still" (gJ 18)
 f_first_led_round:iP K "first_led_round" (gJ 19)
 f_need_none:iP K "need_none" (gJ 20)
 f_need_parts:iP K "need_parts" (gJ 21)
 f_doors_by_start:iP K "doors_by_start" (gJ 22)
 f_has_asks_alone:iP K "has_asks_alone" (gJ 23)
 f_Machine___init__:C_ K C "__init__" "Machine.__init__" (jY (gJ 24) 0)
 f_NoText_init:C_ K C_NoText "__init__" "NoText.__init__" (jY (gJ 4) 0)
 f_Machine_asks:C_ K C "asks" "Machine.asks" (jY (gJ 24) 1)
 f_Machine_says:C_ K C "says" "Machine.says" (jY (gJ 24) 2)
 f_Machine_rooms:C_ K C "rooms" "Machine.rooms" (jY (gJ 24) 3)
 f_Machine_doors:C_ K C "doors" "Machine.doors" (jY (gJ 24) 4)
 f_row_of_door:iP K "row_of_door" (gJ 27)
 f_shown:iP K "shown" (gJ 28)
 f_law_same:iP K "_law_same" (gJ 52)
 f_law_text_of:iP K "_law_text_of" (gJ 53)
 f_law_letters:iP K "_law_letters" (gJ 45)
 f_law_is_name:iP K "_law_is_name" (gJ 46)
 f_law_first_wrong:iP K "_law_first_wrong" (gJ 47)
 f_law_is_sign:iP K "_law_is_sign" (gJ 48)
 f_law_wrong_door:iP K "_law_wrong_door" (gJ 49)
 f_law_round:iP K "_law_round" (gJ 50)
 f_law_due:iP K "_law_due" (gJ 51)
 f_is_head:iP K "is_head" (gJ 29)
 f_is_door:iP K "is_door" (gJ 30)
 f_is_row:iP K "is_row" (gJ 31)
 f_need_rows:iP K "need_rows" (gJ 32)
 f_door_of:iP K "door_of" (gJ 33)
 f_read:iP K "read" (gJ 34)
 f_law_good_row:iP K "_law_good_row" (gJ 54)
 f_law_read_due:iP K "_law_read_due" (gJ 55)
 f_law_read_told:iP K "_law_read_told" (gJ 56)
 f_law_some_sign:iP K "_law_some_sign" (gJ 57)
 f_law_bent_text:iP K "_law_bent_text" (gJ 58)
 f_law89:iP K "law" (gJ 59)
section
variable{P:bB}{w:World}{K:Za}{mg:Str->Option Value}{base h:Heap}{C Cx Ct a_STILL a_HEADS C_NoText:Addr}
section
variable(P:bB)(w:World)(K:Za)(mg:Str->Option Value)(C Cx Ct C_NoText:Addr)
abbrev j6:Prop:=∀base,iT P w K mg base "_law_spread" ["cell","at"] 1 lI
abbrev tW:Prop:=∀base,iT P w K mg base "_law_open" ["script"] 1 (qY K)
abbrev mY:Prop:=∀base,iT P w K mg base "_law_anew" ["pen"] 1 wd
abbrev fy:Prop:=∀base,iT P w K mg base "_law_take" ["pen","many"] 2 eX
abbrev lD:Prop:=∀base,iT P w K mg base "_law_names" ["pen","many"] 3 nG
abbrev pX:Prop:=∀base,iT P w K mg base "_law_put" ["doors","door"] 1 sF
abbrev gy:Prop:=∀base,iT P w K mg base "_law_draw_doors" ["pen","asks","says","rooms","full"] 3 gD
abbrev qw:Prop:=∀base,iT P w K mg base "_law_model" ["pen","most","full"] 4 nI
abbrev iR:Prop:=∀base,iT P w K mg base "_law_still_on" ["doors","rooms"] 1 (iY K)
abbrev lE:Prop:=∀base,Fq P w K mg base "NoMachine" Cx ["self","part","number"] 1 (nD Cx)
abbrev pZ:Prop:=∀base,iT P w K mg base "is_name" ["text"] 1 sp_is_name
abbrev jF:Prop:=∀base,iT P w K mg base "as_keys" ["things"] 1 (sp_as_keys K)
abbrev fz:Prop:=∀base,iT P w K mg base "first_wrong_name" ["names","most","taken"] 2 (sp_first_wrong_name K)
abbrev j7:Prop:=∀base,iT P w K mg base "door_signs" ["asks","says"] 1 (sp_door_signs K)
abbrev fA:Prop:=∀base,iT P w K mg base "first_wrong_door" ["doors","rooms","signs"] 2 (sp_first_wrong_door K)
abbrev c_:Prop:=∀base,iT P w K mg base "goals_by_start_and_sign" ["doors"] 1 kM
abbrev iQ:Prop:=∀base,iT P w K mg base "led_by_still" ["goals","room"] 1 sG
abbrev f6:Prop:=∀base,iT P w K mg base "first_led_round" ["rooms","led"] 1 cK
abbrev jb:Prop:=∀base,y9 P w K mg base "need_none" ["part","number"] 3 (dh Cx)
abbrev j5:Prop:=∀base,y9 P w K mg base "need_parts" ["asks","says","rooms","doors"] 4 (eF Cx)
abbrev gB:Prop:=∀base,iT P w K mg base "doors_by_start" ["rooms","doors"] 1 sp_doors_by_start
abbrev gA:Prop:=∀base,iT P w K mg base "has_asks_alone" ["doors"] 1 sp_has_asks_alone
abbrev p7:Prop:=∀base,IN P w K mg base "Machine" C ["self","asks","says","rooms","doors"] 5 (nK C Cx)
abbrev tZ:Prop:=∀base,Fq P w K mg base "NoText" C_NoText ["self","number"] 2 (pd C_NoText "number")
abbrev gb:Prop:=∀base,IQ P w K mg base C "asks" ["self"] 1 (lM C)
abbrev f_:Prop:=∀base,IQ P w K mg base C "says" ["self"] 1 (lJ C)
abbrev fe:Prop:=∀base,IQ P w K mg base C "rooms" ["self"] 1 (jw C)
abbrev ff:Prop:=∀base,IQ P w K mg base C "doors" ["self"] 1 (kN C)
abbrev jm:Prop:=∀base,iT P w K mg base "row_of_door" ["door"] 1 (zO K)
abbrev BX:Prop:=∀base,iT P w K mg base "shown" ["M"] 2 (iH K C)
abbrev tV:Prop:=∀base,iT P w K mg base "_law_same" ["found","due"] 5 (dF K 4)
abbrev mm:Prop:=∀base,iT P w K mg base "_law_text_of" ["told"] 1 (jP K)
abbrev gG:Prop:=∀base,iT P w K mg base "_law_letters" [] 1 iI
abbrev jp:Prop:=∀base,iT P w K mg base "_law_is_name" ["word"] 2 nJ
abbrev fZ:Prop:=∀base,iT P w K mg base "_law_first_wrong" ["words","most","others"] 3 (wb K)
abbrev jo:Prop:=∀base,iT P w K mg base "_law_is_sign" ["sign","asks","says"] 1 jQ
abbrev gv:Prop:=∀base,iT P w K mg base "_law_wrong_door" ["asks","says","rooms","doors"] 2 gC
abbrev lB:Prop:=∀base,iT P w K mg base "_law_round" ["rooms","doors"] 2 nE
abbrev pY:Prop:=∀base,iT P w K mg base "_law_due" ["asks","says","rooms","doors"] 4 wc
abbrev p0:Prop:=∀base,iT P w K mg base "is_head" ["words","head"] 1 jR
abbrev p4:Prop:=∀base,iT P w K mg base "is_door" ["words"] 1 jS
abbrev tX:Prop:=∀base,iT P w K mg base "is_row" ["words","number"] 2 lK
abbrev lA:Prop:=∀base,y9 P w K mg base "need_rows" ["ended","rest"] 4 (ia C_NoText)
abbrev p6:Prop:=∀base,iT P w K mg base "door_of" ["words"] 1 lL
abbrev AK:Prop:=∀base,y9 P w K mg base "read" ["text"] 7 (jx C Cx C_NoText)
abbrev iS:Prop:=∀base,iT P w K mg base "_law_good_row" ["number","words"] 1 i4
abbrev lC:Prop:=∀base,iT P w K mg base "_law_read_due" ["given"] 5 dS
abbrev kg:Prop:=∀base,iT P w K mg base "_law_read_told" ["given"] 8 dS
abbrev hW:Prop:=∀base,iT P w K mg base "_law_some_sign" ["pen"] 3 iZ
abbrev kh:Prop:=∀base,iT P w K mg base "_law_bent_text" ["pen","given"] 4 kO
end
section
variable(X:K.In h)(G:h.Ns bV mg)(z:Zs mg)(c:Cs K mg C Cx Ct a_STILL a_HEADS C_NoText)(T:Ts K C Cx C_NoText)
include X G z c T
theorem ud:j6 P w K mg:=fun base=>dG X G T.f_law_spread (fun S _ _ _ _ _ _ _ _ _ hr hu h=>bK (Cm (K:=K) h) (ac (bG (lF Jp (pv 0) (aJ Es af af)) (ag (aw (pv 0))) aL) (ac (qs 2 S (aJ gm (aJ c8 (aJ c8 (aJ iK (aJ gm (pv 0) af) af) (aJ iK (pv 1) af)) af) af)) (ac (qs 3 S (aJ gm (aJ c8 (aJ c8 (aJ iK (pv 2) (pv 2)) (aJ iK (pv 1) af)) (aJ gm (pv 0) af)) af)) (ac (qs 4 S (aJ gm (aJ c8 (aJ c8 (aJ iK (pv 3) (pv 3)) (aJ iK (pv 2) af)) af) af)) (ag (aw (aJ c8 (aJ iK (aJ c8 (aJ iK (pv 2) af) (pv 3)) af) (pv 4))))))))) (by walk_at "b")
theorem ya:tW P w K mg:=fun base=>dG X G T.f_law_open (fun S _ _ _ _ _ _ _ _ _ hr hu h=>bK (FX h) (ac (qs 1 S (qL rfl z.list (a1 (aY cz (pv 0) bN (bc af))))) (ac (cH ca rfl (gE rfl z.enumerate (a1 (aY cz (pv 0) (bc af) (bc af)))) (dU rfl (ay (gn 2 S) (ay (gn 3 S) cA))) (ag (kW (aJ c8 (xl (pv 1) (aJ gm (pv 2) af)) (pv 3)) (sO (pv 1) (aJ gm (pv 2) af) kP)))) (ag (aw (bM (a3 (pv 1) af af))))))) (by walk_at "b")
theorem yb:mY P w K mg:=fun base=>dG X G T.f_law_anew (fun S _ _ _ _ _ _ _ _ _ hr hu h=>bK (FZ (K:=K) h) (ac (kW af (sO (pv 0) af kP)) (ag (aw (pv 0))))) (by walk_at "b")
theorem x9(D_law_spread:j6 P w K mg):fy P w K mg:=fun base=>dG X G T.f_law_take (fun S _ _ _ _ _ _ _ _ _ hr hu h=>bK (FV h) (ac (bG (lF sS (xl (pv 0) af) (pv 1)) (ac (qs 2 S (xl (pv 0) af)) (ac (qs 3 S af) (ac (bG (lF sS (pv 2) (ql z.len (a1 (xl (pv 0) af)))) (ag (qs 3 S (xl (xl (pv 0) af) (pv 2)))) (ag (bG (lF uZ (ql z.len (a1 (xl (pv 0) af))) af) (ag (qs 3 S (aJ gm (xl (xl (pv 0) af) (aJ gm (aJ c8 (aJ iK (pv 2) af) af) (ql z.len (a1 (xl (pv 0) af))))) (aJ c8 (aJ Es af af) (pv 2))))) aL))) (ac (kW (aJ c8 (pv 2) af) (sO (pv 0) af kP)) (ag (kW (qf hr (D_law_spread base) (a2 (pv 3) (pv 2))) (sO (pv 0) af kP))))))) aL) (ac (qs 4 S (aJ gm (xl (pv 0) af) (pv 1))) (ac (kW (aJ Bq (xl (pv 0) af) (pv 1)) (sO (pv 0) af kP)) (ag (aw (pv 4))))))) (by walk_at "b")
theorem v5(D_law_take:fy P w K mg):lD P w K mg:=fun base=>dG X G T.f_law_names (fun S _ _ _ _ _ _ _ _ _ hr hu h=>bK (DN h) (ac (qs 2 S aD) (ac (qs 3 S (fP ky vo vn rg aD (a1 (qc (jy rfl z.range (a1 af)) (bS (by decide)) fun _ _ _ _ _ _=>⟨gc 0,cQ,xs' (pv 1) (qf hr (D_law_take base) (a2 (pv 2) af))⟩)))) (ac (qs 4 S (qf hr (D_law_take base) (a2 (pv 0) af))) (ac (qs 5 S (qf hr (D_law_take base) (a2 (pv 0) af))) (ac (qs 6 S (qf hr (D_law_take base) (a2 (pv 0) af))) (ac (qs 7 S (bM fu)) (ac (cH ca rfl (jy rfl z.range (a1 (pv 1))) (gn 8 S) (ac (qs 9 S (xs' (pv 2) (aJ gm (aJ c8 (pv 5) (aJ iK af (pv 8))) af))) (ac (qs 10 S (aY jT (pv 3) bN (bc (aJ gm (aJ c8 (pv 6) (aJ iK (pv 8) (aJ gm (pv 4) af))) af)))) (ac (qs 11 S (xl (bM (a3 af (ql z.len (a1 (pv 10))) (aJ Bq (ql z.len (a1 (pv 10))) af))) (pv 4))) (ag (b9 (fP iu jd jc dI (pv 7) (a1 (aJ bh (aJ bh (aY jT (pv 10) bN (bc (pv 11))) (pv 9)) (aY jT (pv 10) (bc (pv 11)) bN)))))))))) (ag (aw (pv 7))))))))))) (by walk_at "b")
theorem zC:pX P w K mg:=fun base=>dG X G T.f_law_put (fun S _ _ _ _ _ _ _ _ _ hr hu h=>bK (HP h) (ag (bG (FM (jA hu) (pv 1) (pv 0)) (ag (b9 (fP iu jd jc dI (pv 0) (a1 (pv 1))))) aL))) (by walk_at "b")
theorem nn(D_law_take:fy P w K mg)(D_law_put:pX P w K mg):gy P w K mg:=fun base=>dG X G T.f_law_draw_doors (fun S _ _ _ _ _ _ _ _ _ hr hu h=>bK (uj h) (ac (qs 5 S (bM fu)) (ac (qs 6 S (qf hr (D_law_take base) (a2 (pv 0) af))) (ac (cH ca rfl (gE rfl z.enumerate (a1 (pv 3))) (dU rfl (ay (gn 7 S) (ay (gn 8 S) cA))) (ac (cH ca rfl (jy rfl z.range (a1 (xl (bM (cc af (a3 af af af))) (qf hr (D_law_take base) (a2 (pv 0) af))))) (gn 9 S) (ac (qs 10 S (bD (a2 aD (xl (pv 2) (qf hr (D_law_take base) (a2 (pv 0) (ql z.len (a1 (pv 2))))))))) (ag (b9 (qf hr (D_law_put base) (a2 (pv 5) (bD (a3 (pv 8) (pv 10) (xl (pv 3) (qf hr (D_law_take base) (a2 (pv 0) (ql z.len (a1 (pv 3)))))))))))))) (ac (cH ca rfl (bO (pv 1)) (gn 11 S) (ag (cH ca rfl (jy rfl z.range (a1 (xl (bM (cc (pv 4) (a3 af af af))) (qf hr (D_law_take base) (a2 (pv 0) af))))) (gn 9 S) (ag (b9 (qf hr (D_law_put base) (a2 (pv 5) (bD (a3 (pv 8) (bD (a2 aD (pv 11))) (xl (pv 3) (qf hr (D_law_take base) (a2 (pv 0) (ql z.len (a1 (pv 3))))))))))))))) (ac (qs 12 S (xl (bM (a2 (aY cz (pv 3) (bc (aJ c8 (pv 7) af)) bN) (aY cz (pv 3) bN (bc (pv 7))))) (pv 6))) (ag (bG (PW.pt (sN (lF (Et hu) (pv 12) (bM fu)) (q_ (lF ej (qf hr (D_law_take base) (a2 (pv 0) af)) af)))) (ag (b9 (qf hr (D_law_put base) (a2 (pv 5) (bD (a3 (pv 8) (bD (a1 aD)) (xq (pv 12) (qf hr (D_law_take base) (a2 (pv 0) (ql z.len (a1 (pv 12)))))))))))) aL)))))) (ag (aw (pv 5))))))) (by walk_at "b")
theorem v6(D_law_anew:mY P w K mg)(D_law_take:fy P w K mg)(D_law_names:lD P w K mg)(D_law_draw_doors:gy P w K mg):qw P w K mg:=fun base=>dG X G T.f_law_model (fun S _ _ _ _ _ _ _ _ _ hr hu h=>bK (DO h) (ac (b9 (qf hr (D_law_anew base) (a1 (pv 0)))) (ac (qs 3 S (qf hr (D_law_names base) (a2 (pv 0) af))) (ac (qs 4 S (aY cz (pv 3) bN (bc (aJ c8 af (xl (bM (cc af (cc af (cc af (a3 af af af))))) (qf hr (D_law_take base) (a2 (pv 0) af))))))) (ac (qs 5 S (aY cz (pv 3) (bc af) (bc (aJ c8 af (xl (bM (cc af (cc af (cc af (a3 af af af))))) (qf hr (D_law_take base) (a2 (pv 0) af))))))) (ac (qs 6 S (qf hr (D_law_names base) (a2 (pv 0) (aJ c8 af (qf hr (D_law_take base) (a2 (pv 0) (pv 1))))))) (ac (qs 7 S (qf hr (D_law_draw_doors base) (cc (pv 0) (cc (pv 4) (a3 (pv 5) (pv 6) (pv 2)))))) (ag (aw (bD (cc (pv 4) (a3 (pv 5) (pv 6) (pv 7))))))))))))) (by walk_at "b")
theorem qF:iR P w K mg:=fun base=>dG X G T.f_law_still_on (fun S _ _ _ _ _ _ _ _ _ hr hu h=>bK (yh h) (ac (qs 2 S (qL rfl z.list (a1 (pv 1)))) (ac (qs 3 S af) (ac (yq ca (lF sS (pv 3) (ql z.len (a1 (pv 2)))) (ac (cH ca rfl (bO (pv 0)) (dU rfl (ay (gn 4 S) (ay (gn 5 S) (ay (gn 6 S) cA)))) (ag (bG (PW.pt (sN (lF (k6 hu) (pv 4) (xq (pv 2) (pv 3))) (sN (lF (k6 hu) (pv 5) (bD (a1 aD))) (q_ (FM (jA hu) (pv 6) (pv 2)))))) (ag (b9 (fP iu jd jc dI (pv 2) (a1 (pv 6))))) aL))) (ag (qs 3 S (aJ c8 (pv 3) af))))) (ag (aw (pv 2))))))) (by walk_at "b")
theorem v7:lE P w K mg Cx:=fun base=>dXN c.NoMachine c.xc.cls c.kx T.f_NoMachine_init (fun S _ _ _ _ _ _ _ _ _ hr hu h=>bK (DF c.xc h) (ac (b9 (yt c.xb rfl c.TrialError (a3 (pv 0) (pv 1) (pv 2)))) (ac (wq (pv 0) (pv 1) rfl) (ag (wq (pv 0) (pv 2) rfl))))) (by walk_at "b")
theorem zE:pZ P w K mg:=fun base=>dG X G T.f_is_name (fun S _ _ _ _ _ _ _ _ _ hr hu h=>bK (zV h) (ag (aw (gk (wY Bp (pv 0) aD) (gk (wY Eu (ql z.len (a1 (pv 0))) (jz rfl c.LONGEST_NAME)) (gj (qB (ja rfl) z.all vm (a1 (qc (Ec (pv 0)) (bS (by decide)) fun _ _ _ _ _ _=>⟨gc 0,cQ,Jz sT (pv 0) (jz rfl c.LETTERS)⟩))))))))) (by walk_at "b")
theorem zJ:jF P w K mg:=fun base=>dG X G T.f_as_keys (fun S _ _ _ _ _ _ _ _ _ hr hu h=>bK (zY h) (ac (qs 1 S sR) (ac (cH ca rfl (bO (pv 0)) (gn 2 S) (ag (lO hu (pv 1) (pv 2) j_ rfl))) (ag (aw (pv 1)))))) (by walk_at "b")
theorem lX(D_is_name:pZ P w K mg)(D_as_keys:jF P w K mg):fz P w K mg:=fun base=>dG X G T.f_first_wrong_name (fun S _ _ _ _ _ _ _ _ _ hr hu h=>bK (lZ h) (ac (bG (lF ej (ql z.len (a1 (pv 0))) af) (ag (aw af)) aL) (ac (qs 3 S (qf hr (D_as_keys base) (a1 (pv 2)))) (ac (cH ca rfl (gE rfl z.enumerate (a1 (pv 0))) (dU rfl (ay (gn 4 S) (ay (gn 5 S) cA))) (ac (bG (PW.pt (kS (lF ej (pv 4) (pv 1)) (kS (g9 (wB hu (pv 5) (pv 3))) (mH (kT (ft (qf hr (D_is_name base) (a1 (pv 5))))))))) (ag (aw (pv 4))) aL) (ag (lO hu (pv 3) (pv 5) j_ rfl)))) (ag (aw kZ)))))) (by walk_at "b")
theorem ue:j7 P w K mg:=fun base=>dG X G T.f_door_signs (fun S _ _ _ _ _ _ _ _ _ hr hu h=>bK (uk c.still h) (ag (aw (aJ k7 (aJ k7 (qc (bO (pv 0)) (bS (by decide)) fun _ _ _ _ _ _=>⟨gc 0,cQ,bD (a2 aD (pv 0))⟩) (qc (bO (pv 1)) (bS (by decide)) fun _ _ _ _ _ _=>⟨gc 0,cQ,bD (a2 aD (pv 0))⟩)) (bM (a1 (jz rfl c.STILL))))))) (by walk_at "b")
theorem lY(D_as_keys:jF P w K mg):fA P w K mg:=fun base=>dG X G T.f_first_wrong_door (fun S _ _ _ _ _ _ _ _ _ hr hu h=>bK (l5 h) (ac (qs 3 S (qf hr (D_as_keys base) (a1 (pv 1)))) (ac (qs 4 S sQ) (ac (cH ca rfl (gE rfl z.enumerate (a1 (pv 0))) (dU rfl (ay (gn 5 S) (ay (gn 6 S) cA))) (ac (bG (PW.pt (kS (lF ej (pv 5) (jz rfl c.MOST_DOORS)) (mH (g9 (wB hu (pv 6) (pv 4)))))) (ag (aw (pv 5))) aL) (ac (bG (PW.pt (kS (g9 (pq hu (xq (pv 6) af) (pv 3))) (kS (FM (jA hu) (xq (pv 6) af) (pv 2)) (mH (g9 (pq hu (xq (pv 6) af) (pv 3))))))) (ag (aw (pv 5))) aL) (ag (lO hu (pv 4) (pv 6) j_ rfl))))) (ag (aw kZ)))))) (by walk_at "b")
theorem iB:c_ P w K mg:=fun base=>dG X G T.f_goals_by_start_and_sign (fun S _ _ _ _ _ _ _ _ _ hr hu h=>bK (iJ h) (ac (qs 1 S sQ) (ac (cH ca rfl (bO (pv 0)) (dU rfl (ay (gn 2 S) (ay (gn 3 S) (ay (gn 4 S) cA)))) (ag (b9 (fP iu jd jc dI (fP PySem.F.plainAttrs_dict PySem.F.slot_dict_setdefault PySem.F.type_dict_setdefault (Cz hu) (pv 1) (a2 (bD (a2 (pv 2) (pv 3))) (bM fu))) (a1 (pv 4)))))) (ag (aw (pv 1)))))) (by walk_at "b")
theorem qE:iQ P w K mg:=fun base=>dG X G T.f_led_by_still (fun S _ _ _ _ _ _ _ _ _ hr hu h=>bK (qI c.still h) (ac (qs 2 S sR) (ac (qs 3 S (bM (a1 (pv 1)))) (ac (yq ca (lF uZ (ql z.len (a1 (pv 3))) af) (ac (qs 4 S (Ii iu PySem.F.slot_list_pop PySem.F.type_list_pop Ij (pv 3))) (ag (cH ca rfl (H_ (Ej hu (pv 0) (bD (a2 (pv 4) (jz rfl c.STILL))) (bD fu) ⟨rfl,rfl,rfl,rfl⟩)) (gn 5 S) (ag (bG (g9 (pq hu (pv 5) (pv 2))) (ac (lO hu (pv 2) (pv 5) j_ rfl) (ag (b9 (fP iu jd jc dI (pv 3) (a1 (pv 5)))))) aL)))))) (ag (aw (pv 2))))))) (by walk_at "b")
theorem mF:f6 P w K mg:=fun base=>dG X G T.f_first_led_round (fun S _ _ _ _ _ _ _ _ _ hr hu h=>bK (l7 h) (ac (cH ca rfl (gE rfl z.enumerate (a1 (pv 0))) (dU rfl (ay (gn 2 S) (ay (gn 3 S) cA))) (ag (bG (g9 (wB hu (pv 3) (ww hu (pv 1) (pv 3) (fun _ _=>rfl)))) (ag (aw (pv 2))) aL))) (ag (aw kZ)))) (by walk_at "b")
theorem v3(D_NoMachine:lE P w K mg Cx):jb P w K mg Cx:=fun base=>J9 X G T.f_need_none (fun S _ _ _ _ _ _ _ _ _ hr hu h=>bK (ui h) (ag (bG (g9 (wA (pv 1))) (ag (Cv (D_NoMachine base) sY (hr.mono (by decide)) rfl rfl (a2 (pv 0) (pv 1)))) aL))) (by walk_at "b")
theorem uc(D_first_wrong_name:fz P w K mg)(D_door_signs:j7 P w K mg)(D_first_wrong_door:fA P w K mg)(D_need_none:jb P w K mg Cx):j5 P w K mg Cx:=fun base=>J9 X G T.f_need_parts (fun S _ _ _ _ _ _ _ _ _ hr hu h=>bK (sK h) (ac (b9 (pk (D_need_none base) sY (hr.mono (by decide)) rfl (a2 aD (qf hr (D_first_wrong_name base) (a3 (pv 0) (jz rfl c.MOST_WORDS) (bM fu)))))) (ac (b9 (pk (D_need_none base) sY (hr.mono (by decide)) rfl (a2 aD (qf hr (D_first_wrong_name base) (a3 (pv 1) (jz rfl c.MOST_WORDS) (pv 0)))))) (ac (b9 (pk (D_need_none base) sY (hr.mono (by decide)) rfl (a2 aD (qf hr (D_first_wrong_name base) (a3 (pv 2) (jz rfl c.MOST_ROOMS) (bM fu)))))) (ag (b9 (pk (D_need_none base) sY (hr.mono (by decide)) rfl (a2 aD (qf hr (D_first_wrong_door base) (a3 (pv 3) (pv 2) (qf hr (D_door_signs base) (a2 (pv 0) (pv 1))))))))))))) (by walk_at "b")
theorem nB:gB P w K mg:=fun base=>dG X G T.f_doors_by_start (fun S _ _ _ _ _ _ _ _ _ hr hu h=>bK (nO h) (ac (qs 2 S sR) (ac (cH ca rfl (bO (pv 0)) (gn 3 S) (ag (lO hu (pv 2) (pv 3) (bM fu) rfl))) (ac (cH ca rfl (bO (pv 1)) (gn 4 S) (ag (b9 (fP iu jd jc dI (ww hu (pv 2) (xq (pv 4) af) (fun _ _=>rfl)) (a1 (pv 4)))))) (ag (aw (pv 2))))))) (by walk_at "b")
theorem nr:gA P w K mg:=fun base=>dG X G T.f_has_asks_alone (fun S _ _ _ _ _ _ _ _ _ hr hu h=>bK (nN h) (ag (aw (qB (ja rfl) z.all vm (a1 (qc (bO (pv 0)) (bS (by decide)) fun _ _ _ _ _ _=>⟨gc 0,cQ,wY ej (xq (xq (pv 0) af) af) aD⟩)))))) (by walk_at "b")
theorem zK(D_as_keys:jF P w K mg)(D_goals_by_start_and_sign:c_ P w K mg)(D_led_by_still:iQ P w K mg)(D_first_led_round:f6 P w K mg)(D_need_none:jb P w K mg Cx)(D_need_parts:j5 P w K mg Cx)(D_doors_by_start:gB P w K mg)(D_has_asks_alone:gA P w K mg):p7 P w K mg C Cx:=fun base=>dNX c.cm c.makes c.kc T.f_Machine___init__ (fun S _ _ _ _ _ _ _ _ _ hr hu h=>bK (DS c.mc h) (ac (b9 (pk (D_need_parts base) sY (hr.mono (by decide)) rfl (cc (pv 1) (a3 (pv 2) (pv 3) (pv 4))))) (ac (PS.nox (kU (pv 0) (qL rfl z.list (a1 (pv 1))) rfl)) (ac (PS.nox (kU (pv 0) (qL rfl z.list (a1 (pv 2))) rfl)) (ac (PS.nox (kU (pv 0) (qL rfl z.list (a1 (pv 3))) rfl)) (ac (PS.nox (kU (pv 0) (qL rfl z.list (a1 (pv 4))) rfl)) (ac (PS.nox (kU (pv 0) (qf hr (D_doors_by_start base) (a2 (pv 3) (pv 4))) rfl)) (ac (PS.nox (kU (pv 0) (qf hr (D_as_keys base) (a1 (qc (bO (pv 3)) (bS (by decide)) fun _ _ _ _ _ _=>⟨gc 0,rf (ft (qf hr (D_has_asks_alone base) (a1 (ww hu (mJ (pv 1) rfl) (pv 0) (fun _ _=>rfl))))),pv 0⟩))) rfl)) (ac (PS.nox (kU (pv 0) (qf hr (D_goals_by_start_and_sign base) (a1 (pv 4))) rfl)) (ac (PS.nox (kU (pv 0) (lP (xr rfl) rfl z.dict Ay (a1 (qc (bO (pv 3)) (bS (by decide)) fun _ _ _ _ _ _=>⟨gc 0,cQ,bD (a2 (pv 0) (qf hr (D_led_by_still base) (a2 (mJ (pv 1) rfl) (pv 0))))⟩))) rfl)) (ag (b9 (pk (D_need_none base) sY (hr.mono (by decide)) rfl (a2 aD (qf hr (D_first_led_round base) (a2 (pv 3) (mJ (pv 0) rfl))))))))))))))))) (by walk_at "b")
theorem Ci:tZ P w K mg C_NoText:=fun base=>dXN c.x_NoText.g c.x_NoText.cls c.x_NoText.kp T.f_NoText_init (fun S _ _ _ _ _ _ _ _ _ hr hu h=>bK (HM (n0:="self") (n1:="number") c.x_NoText.cls c.na_NoText_number h) (ac (b9 (yt c.xb rfl c.TrialError (a2 (pv 0) (pv 1)))) (ag (wq (pv 0) (pv 1) rfl)))) (by walk_at "b")
theorem qD:gb P w K mg C:=fun base=>dM c.mc.cls T.f_Machine_asks (fun S _ _ _ _ _ _ _ _ _ hr hu h=>bK (FY c.mc h) (ag (aw (qL rfl z.list (a1 (mJ (pv 0) rfl)))))) (by walk_at "b")
theorem qC:f_ P w K mg C:=fun base=>dM c.mc.cls T.f_Machine_says (fun S _ _ _ _ _ _ _ _ _ hr hu h=>bK (FW c.mc h) (ag (aw (qL rfl z.list (a1 (mJ (pv 0) rfl)))))) (by walk_at "b")
theorem o8:fe P w K mg C:=fun base=>dM c.mc.cls T.f_Machine_rooms (fun S _ _ _ _ _ _ _ _ _ hr hu h=>bK (DK c.mc h) (ag (aw (qL rfl z.list (a1 (mJ (pv 0) rfl)))))) (by walk_at "b")
theorem o9:ff P w K mg C:=fun base=>dM c.mc.cls T.f_Machine_doors (fun S _ _ _ _ _ _ _ _ _ hr hu h=>bK (DV c.mc h) (ag (aw (qL rfl z.list (a1 (mJ (pv 0) rfl)))))) (by walk_at "b")
theorem sy:jm P w K mg:=fun base=>dG X G T.f_row_of_door (fun S _ _ _ _ _ _ _ _ _ hr hu h=>bK (HN h) (ac (kW (pv 0) (dU rfl (ay (gn 1 S) (ay (gn 2 S) (ay (gn 3 S) cA))))) (ag (aw (fP ky vo vn rg aD (a1 (aJ k7 (aJ k7 (bM (a1 (pv 1))) (qL rfl z.list (a1 (pv 2)))) (bM (a1 (pv 3)))))))))) (by walk_at "b")
theorem Dv(M_Machine_asks:gb P w K mg C)(M_Machine_says:f_ P w K mg C)(M_Machine_rooms:fe P w K mg C)(M_Machine_doors:ff P w K mg C)(D_row_of_door:jm P w K mg):BX P w K mg C:=fun base=>dG X G T.f_shown (fun S _ _ _ _ _ _ _ _ _ hr hu h=>bK (DG h) (ac (qs 1 S (bM (a3 (aJ k7 (bM (a1 aD)) (G4 hr (M_Machine_asks base) (pv 0))) (aJ k7 (bM (a1 aD)) (G4 hr (M_Machine_says base) (pv 0))) (aJ k7 (bM (a1 aD)) (G4 hr (M_Machine_rooms base) (pv 0)))))) (ac (qs 2 S (aJ k7 (qc (bO (pv 1)) (bS (by decide)) fun _ _ _ _ _ _=>⟨gc 0,cQ,fP ky vo vn rg aD (a1 (pv 0))⟩) (qc (bO (G4 hr (M_Machine_doors base) (pv 0))) (bS (by decide)) fun _ _ _ _ _ _=>⟨gc 0,cQ,qf hr (D_row_of_door base) (a1 (pv 0))⟩))) (ag (aw (fP ky vo vn rg aD (a1 (qc (bO (pv 2)) (bS (by decide)) fun _ _ _ _ _ _=>⟨gc 0,cQ,aJ bh (pv 0) aD⟩)))))))) (by walk_at "b")
theorem x_:tV P w K mg:=fun base=>by
  have E0:iT P w K mg base "_law_same" ["found","due"] 0 Jh:=by
   obtain⟨f,a,t⟩:=T.f_law_same;obtain⟨fd,F⟩:=t.fun_;exact⟨f,fd,Jr,eO X G a,F.kp,F.binds (ps:=["found","due"]) (by walk_at "b")⟩
  have st:∀(j:Nat) (sp:Sp),j<=8->(∀m,j=m+1->sp=(dF K m))->iT P w K mg base "_law_same" ["found","due"] j sp->iT P w K mg base "_law_same" ["found","due"] (j+1) (dF K j):=fun j sp hj hsp Ds=>dG X G T.f_law_same (fun S _ _ _ _ _ _ _ _ _ hr hu h=>bK (DH hsp h) (ac (bG (g9 (z7 (pv 1))) (ag (aw (Ih (z7 (pv 0))))) aL) (ac (bG (ft (qB d5 z.isinstance d7 (a2 (pv 1) (mI rfl z.bool)))) (ag (aw (gk (qB d5 z.isinstance d7 (a2 (pv 0) (mI rfl z.bool))) (gj (wY (k6 hu) (pv 0) (pv 1)))))) aL) (ac (bG (ft (qB d5 z.isinstance d7 (a2 (pv 1) (uV rfl z.str)))) (ag (aw (gk (qB d5 z.isinstance d7 (a2 (pv 0) (uV rfl z.str))) (gj (wY (k6 hu) (pv 0) (pv 1)))))) aL) (ac (bG (ft (qB d5 z.isinstance d7 (a2 (pv 1) (uW rfl z.int)))) (ag (aw (gk (qB d5 z.isinstance d7 (a2 (pv 0) (uW rfl z.int))) (gk (Ie (qB d5 z.isinstance d7 (a2 (pv 0) (mI rfl z.bool)))) (gj (wY (k6 hu) (pv 0) (pv 1))))))) aL) (ac (bG (PW.pt (sN (ft (qB d5 z.isinstance d7 (a2 (pv 1) (kY rfl z.tuple)))) (q_ (kT (ft (qB d5 z.isinstance d7 (a2 (pv 0) (kY rfl z.tuple)))))))) (ag (aw j_)) aL) (ac (bG (PW.pt (sN (ft (qB d5 z.isinstance d7 (a2 (pv 1) (sP rfl z.list)))) (q_ (kT (ft (qB d5 z.isinstance d7 (a2 (pv 0) (sP rfl z.list)))))))) (ag (aw j_)) aL) (ac (bG (lF Bp (ql z.len (a1 (pv 0))) (ql z.len (a1 (pv 1)))) (ag (aw j_)) aL) (ag (aw (qB (ja rfl) z.all vm (a1 (qc (Gd rfl z.zip (a2 (pv 0) (pv 1))) (Gi (uY (bS (by decide)) pC (uY (bS (by decide)) pC (En) (u4)) (Aa pC (u4)))) fun _ _ _ _ _ _=>⟨dU rfl (ay (gc 0) (ay (gc 1) cA)),cQ,G_ Ds hr rfl (a2 (pv 0) (pv 1))⟩))))))))))))) (by walk_at "b");have E1:=st 0 _ (by decide) (fun m e=>by cases e) E0;have E2:=st 1 _ (by decide) (fun m e=>by cases e;rfl) E1;have E3:=st 2 _ (by decide) (fun m e=>by cases e;rfl) E2;have E4:=st 3 _ (by decide) (fun m e=>by cases e;rfl) E3;have E5:=st 4 _ (by decide) (fun m e=>by cases e;rfl) E4;exact E5
theorem sA:mm P w K mg:=fun base=>dG X G T.f_law_text_of (fun S _ _ _ _ _ _ _ _ _ hr hu h=>bK (zR h) (ac (kW (pv 0) (dU rfl (ay (gn 1 S) (ay (gn 2 S) (ay (gn 3 S) (ay (gn 4 S) cA)))))) (ac (qs 5 S aD) (ac (cH ca rfl (bO (bM (a3 (bD (a2 aD (pv 1))) (bD (a2 aD (pv 2))) (bD (a2 aD (pv 3)))))) (dU rfl (ay (gn 6 S) (ay (gn 7 S) cA))) (ac (qs 5 S (aJ bh (pv 5) (pv 6))) (ac (cH ca rfl (bO (pv 7)) (gn 8 S) (ag (qs 5 S (aJ bh (aJ bh (pv 5) aD) (pv 8))))) (ag (qs 5 S (aJ bh (pv 5) aD)))))) (ac (cH ca rfl (bO (pv 4)) (dU rfl (ay (gn 9 S) (ay (gn 10 S) (ay (gn 11 S) cA)))) (ac (qs 5 S (aJ bh (pv 5) (pv 9))) (ac (cH ca rfl (HZ (pv 10)) (gn 12 S) (ag (qs 5 S (aJ bh (aJ bh (pv 5) aD) (pv 12))))) (ag (qs 5 S (aJ bh (aJ bh (aJ bh (pv 5) aD) (pv 11)) aD)))))) (ag (aw (pv 5)))))))) (by walk_at "b")
theorem sB:gG P w K mg:=fun base=>dG X G T.f_law_letters (fun S _ _ _ _ _ _ _ _ _ hr hu h=>bK (zT (K:=K) h) (ag (aw aD))) (by walk_at "b")
theorem sD(D_law_letters:gG P w K mg):jp P w K mg:=fun base=>dG X G T.f_law_is_name (fun S _ _ _ _ _ _ _ _ _ hr hu h=>bK (DP h) (ag (aw (gk (Ek Eu Eu af (ql z.len (a1 (pv 0))) af) (gj (qB (ja rfl) z.all vm (a1 (qc (Ec (pv 0)) (bS (by decide)) fun _ _ _ _ _ _=>⟨gc 0,cQ,Jz sT (pv 0) (Ei (D_law_letters base) (hr.mono (by decide)) rfl)⟩)))))))) (by walk_at "b")
theorem mE(D_law_is_name:jp P w K mg):fZ P w K mg:=fun base=>dG X G T.f_law_first_wrong (fun S _ _ _ _ _ _ _ _ _ hr hu h=>bK (HQ h) (ac (bG (lF (k6 hu) (pv 0) (bM fu)) (ag (aw af)) aL) (ac (cH ca rfl (gE rfl z.enumerate (a1 (aY cz (pv 0) bN (bc (pv 1))))) (dU rfl (ay (gn 3 S) (ay (gn 4 S) cA))) (ag (bG (PW.pt (kS (kT (ft (qf hr (D_law_is_name base) (a1 (pv 4))))) (kS (FM (mK hu) (pv 4) (aY cz (pv 0) bN (bc (pv 3)))) (mH (FM (mK hu) (pv 4) (pv 2)))))) (ag (aw (pv 3))) aL))) (ac (bG (lF uZ (ql z.len (a1 (pv 0))) (pv 1)) (ag (aw (pv 1))) aL) (ag (aw kZ)))))) (by walk_at "b")
theorem sC:jo P w K mg:=fun base=>dG X G T.f_law_is_sign (fun S _ _ _ _ _ _ _ _ _ hr hu h=>bK (zU h) (ac (bG (lF ej (ql z.len (a1 (pv 0))) af) (ag (aw (wY (k6 hu) (pv 0) (bD (a1 aD))))) aL) (ag (aw (G9 (gk (wY ej (xt (pv 0) af) aD) (gj (Jz (mK hu) (xt (pv 0) af) (pv 1)))) (gj (gk (wY ej (xt (pv 0) af) aD) (gj (Jz (mK hu) (xt (pv 0) af) (pv 2)))))))))) (by walk_at "b")
theorem nk(D_law_is_sign:jo P w K mg):gv P w K mg:=fun base=>dG X G T.f_law_wrong_door (fun S _ _ _ _ _ _ _ _ _ hr hu h=>bK (uh h) (ac (qs 4 S sQ) (ac (cH ca rfl (gE rfl z.enumerate (a1 (aY cz (pv 3) bN (bc af)))) (dU rfl (ay (gn 5 S) (ay (dU rfl (ay (gn 6 S) (ay (gn 7 S) (ay (gn 8 S) cA)))) cA))) (ac (bG (PW.pt (kS (FM (jA hu) (pv 6) (pv 2)) (kS (FM (jA hu) (pv 8) (pv 2)) (mH (kT (ft (qf hr (D_law_is_sign base) (a3 (pv 7) (pv 0) (pv 1))))))))) (ag (aw (pv 5))) aL) (ac (bG (g9 (wB hu (bD (a3 (pv 6) (pv 7) (pv 8))) (pv 4))) (ag (aw (pv 5))) aL) (ag (lO hu (pv 4) (bD (a3 (pv 6) (pv 7) (pv 8))) j_ rfl))))) (ac (bG (lF uZ (ql z.len (a1 (pv 3))) af) (ag (aw af)) aL) (ag (aw kZ)))))) (by walk_at "b")
theorem v4(D_law_still_on:iR P w K mg):lB P w K mg:=fun base=>dG X G T.f_law_round (fun S _ _ _ _ _ _ _ _ _ hr hu h=>bK (DJ h) (ac (JY 2 S (bO (pv 1)) (bS (by decide)) fun _ _ _ _ _ _=>⟨gc 0,rf (lF (k6 hu) (xq (pv 0) af) (bD (a1 aD))),pv 0⟩) (ac (cH ca rfl (gE rfl z.enumerate (a1 (pv 0))) (dU rfl (ay (gn 3 S) (ay (gn 4 S) cA))) (ac (JY 5 S (bO (pv 2)) (bS (by decide)) fun _ _ _ _ _ _=>⟨gc 0,rf (lF ej (xq (pv 0) af) (pv 1)),xq (pv 0) af⟩) (ag (bG (FM (mK hu) (pv 4) (qf hr (D_law_still_on base) (a2 (pv 2) (pv 5)))) (ag (aw (pv 3))) aL)))) (ag (aw kZ))))) (by walk_at "b")
theorem zD(D_law_first_wrong:fZ P w K mg)(D_law_wrong_door:gv P w K mg)(D_law_round:lB P w K mg):pY P w K mg:=fun base=>dG X G T.f_law_due (fun S _ _ _ _ _ _ _ _ _ hr hu h=>bK (HR h) (ac (qs 4 S (bM (a1 (bD (a2 aD (qf hr (D_law_first_wrong base) (a3 (pv 0) af (bM fu)))))))) (ac (b9 (fP iu jd jc dI (pv 4) (a1 (bD (a2 aD (qf hr (D_law_first_wrong base) (a3 (pv 1) af (pv 0)))))))) (ac (b9 (fP iu jd jc dI (pv 4) (a1 (bD (a2 aD (qf hr (D_law_first_wrong base) (a3 (pv 2) af (bM fu)))))))) (ac (b9 (fP iu jd jc dI (pv 4) (a1 (bD (a2 aD (qf hr (D_law_wrong_door base) (cc (pv 0) (a3 (pv 1) (pv 2) (pv 3))))))))) (ac (cH ca rfl (bO (pv 4)) (dU rfl (ay (gn 5 S) (ay (gn 6 S) cA))) (ag (bG (g9 (wA (pv 6))) (ag (aw (bD (a2 (pv 5) (pv 6))))) aL))) (ac (qs 6 S (qf hr (D_law_round base) (a2 (pv 2) (pv 3)))) (ac (bG (g9 (wA (pv 6))) (ag (aw (bD (a2 aD (pv 6))))) aL) (ag (aw (bM (cc (pv 0) (a3 (pv 1) (pv 2) (pv 3)))))))))))))) (by walk_at "b")
theorem zG:p0 P w K mg:=fun base=>dG X G T.f_is_head (fun S _ _ _ _ _ _ _ _ _ hr hu h=>bK (zW h) (ag (aw (gk (wY uZ (ql z.len (a1 (pv 0))) af) (gj (wY ej (xl (pv 0) af) (pv 1))))))) (by walk_at "b")
theorem zH:p4 P w K mg:=fun base=>dG X G T.f_is_door (fun S _ _ _ _ _ _ _ _ _ hr hu h=>bK (zX h) (ac (bG (lF ej (ql z.len (a1 (pv 0))) af) (ag (aw (wY ej (xl (pv 0) af) aD))) aL) (ag (aw (gk (wY ej (ql z.len (a1 (pv 0))) af) (gj (Jz (mK hu) (xl (pv 0) af) (bD (a2 aD aD))))))))) (by walk_at "b")
theorem Ch(D_is_head:p0 P w K mg)(D_is_door:p4 P w K mg):tX P w K mg:=fun base=>dG X G T.f_is_row (fun S _ _ _ _ _ _ _ _ _ hr hu h=>bK (Co c.heads h) (ac (bG (FM (mK hu) aD (pv 0)) (ag (aw j_)) aL) (ag (aw (Eh (lF sS (pv 1) (ql z.len (a1 (jz rfl c.HEADS)))) (qf hr (D_is_head base) (a2 (pv 0) (xt (jz rfl c.HEADS) (pv 1)))) (qf hr (D_is_door base) (a1 (pv 0)))))))) (by walk_at "b")
theorem vZ(D_NoText:tZ P w K mg C_NoText)(D_is_row:tX P w K mg):lA P w K mg C_NoText:=fun base=>J9 X G T.f_need_rows (fun S _ _ _ _ _ _ _ _ _ hr hu h=>bK (wn c.heads h) (D_ (nS (HV rfl (gE rfl z.enumerate (a1 (pv 0))) (dU rfl (ay (gn 2 S) (ay (gn 3 S) cA))) (pi (G5 (kT (ft (qf hr (D_is_row base) (a2 (pv 3) (pv 2))))) (pi (G6 (uT (D_NoText base) (hr.mono (by decide)) rfl rfl (a1 (pv 2))))) DZ))) (pi (G5 (PW.pt (kS (lF Bp (pv 1) aD) (mH (lF sS (ql z.len (a1 (pv 0))) (ql z.len (a1 (jz rfl c.HEADS))))))) (pi (G6 (uT (D_NoText base) (hr.mono (by decide)) rfl rfl (a1 (ql z.len (a1 (pv 0))))))) DZ))))) (by walk_at "b")
theorem zI:p6 P w K mg:=fun base=>dG X G T.f_door_of (fun S _ _ _ _ _ _ _ _ _ hr hu h=>bK (Cp h) (ag (aw (bD (a3 (xl (pv 0) af) (lP mj rfl z.tuple lp (a1 (aY cz (pv 0) (bc af) (bc (uU oW af))))) (xl (pv 0) (uU oW af))))))) (by walk_at "b")
theorem FQ(D_Machine:p7 P w K mg C Cx)(D_need_rows:lA P w K mg C_NoText)(D_door_of:p6 P w K mg):AK P w K mg C Cx C_NoText:=fun base=>J9 X G T.f_read (fun S _ _ _ _ _ _ _ _ _ hr hu h=>bK (DM c.heads h) (D_ (nS (G6 (wo (qs 1 S (fP ky vk vj nX (pv 0) (a1 aD))))) (nS (G6 (wo (JY 2 S (bO (aY cz (pv 1) bN (bc (uU oW af)))) (bS (by decide)) fun _ _ _ _ _ _=>⟨gc 0,cQ,fP ky vk vj nX (pv 0) (a1 aD)⟩))) (nS (G6 (Ga (Ee (D_need_rows base) (hr.mono (by decide)) rfl (a2 (pv 2) (xl (pv 1) (uU oW af)))))) (nS (G6 (wo (kW (qc (bO (aY cz (pv 2) bN (bc (ql z.len (a1 (jz rfl c.HEADS)))))) (bS (by decide)) fun _ _ _ _ _ _=>⟨gc 0,cQ,aY cz (pv 0) (bc af) bN⟩) (Ib rfl (ay (gn 3 S) (ay (gn 4 S) (ay (gn 5 S) cA))))))) (pi (G6 (HX (Ge (D_Machine base) (hr.mono (by decide)) rfl (cc (pv 3) (a3 (pv 4) (pv 5) (qc (bO (aY cz (pv 2) (bc (ql z.len (a1 (jz rfl c.HEADS)))) bN)) (bS (by decide)) fun _ _ _ _ _ _=>⟨gc 0,cQ,qf hr (D_door_of base) (a1 (pv 0))⟩))))))))))))) (by walk_at "b")
theorem qH:iS P w K mg:=fun base=>dG X G T.f_law_good_row (fun S _ _ _ _ _ _ _ _ _ hr hu h=>bK (yj h) (ac (bG (lF (Et hu) (qc (bO (pv 1)) (bS (by decide)) fun _ _ _ _ _ _=>⟨gc 0,rf (lF ej (pv 0) aD),pv 0⟩) (bM fu)) (ag (aw j_)) aL) (ac (bG (lF sS (pv 0) af) (ag (aw (gk (wY ej (xl (pv 1) af) (xl (bM (a3 aD aD aD)) (pv 0))) (gj (wY uZ (ql z.len (a1 (pv 1))) af))))) aL) (ac (bG (lF ej (ql z.len (a1 (pv 1))) af) (ag (aw (wY ej (xl (pv 1) af) aD))) aL) (ag (aw (gk (wY ej (ql z.len (a1 (pv 1))) af) (gj (G9 (wY ej (xl (pv 1) af) aD) (gj (wY ej (xl (pv 1) af) aD))))))))))) (by walk_at "b")
theorem qG(D_law_due:pY P w K mg)(D_law_good_row:iS P w K mg):lC P w K mg:=fun base=>dG X G T.f_law_read_due (fun S _ _ _ _ _ _ _ _ _ hr hu h=>bK (zS h) (ac (qs 1 S (fP ky vk vj nX (pv 0) (a1 aD))) (ac (qs 2 S (bM fu)) (ac (cH ca rfl (gE rfl z.enumerate (a1 (aY cz (pv 1) bN (bc (uU oW af))))) (dU rfl (ay (gn 3 S) (ay (gn 4 S) cA))) (ac (qs 5 S (fP ky vk vj nX (pv 4) (a1 aD))) (ac (bG (kT (ft (qf hr (D_law_good_row base) (a2 (pv 3) (pv 5))))) (ag (aw (bD (a2 aD (pv 3))))) aL) (ag (b9 (fP iu jd jc dI (pv 2) (a1 (pv 5)))))))) (ac (bG (PW.pt (kS (lF sS (ql z.len (a1 (pv 2))) af) (mH (lF Bp (xl (pv 1) (uU oW af)) aD)))) (ag (aw (bD (a2 aD (ql z.len (a1 (pv 2))))))) aL) (ac (JY 6 S (bO (aY cz (pv 2) (bc af) bN)) (bS (by decide)) fun _ _ _ _ _ _=>⟨gc 0,cQ,bD (a3 (xl (pv 0) af) (lP mj rfl z.tuple lp (a1 (aY cz (pv 0) (bc af) (bc (aJ Er (ql z.len (a1 (pv 0))) af))))) (xl (pv 0) (aJ Er (ql z.len (a1 (pv 0))) af)))⟩) (ag (aw (qf hr (D_law_due base) (cc (aY cz (xl (pv 2) af) (bc af) bN) (a3 (aY cz (xl (pv 2) af) (bc af) bN) (aY cz (xl (pv 2) af) (bc af) bN) (pv 6)))))))))))) (by walk_at "b")
theorem pb(M_Machine_asks:gb P w K mg C)(M_Machine_says:f_ P w K mg C)(M_Machine_rooms:fe P w K mg C)(M_Machine_doors:ff P w K mg C)(D_read:AK P w K mg C Cx C_NoText):kg P w K mg:=fun base=>dG X G T.f_law_read_told (fun S _ _ _ _ _ _ _ _ _ hr hu h=>bK (wm (HL c.xc c.x_NoMachine c.x_NoText c.na_NoText_number c.nd) h) (ac (qs 1 S kZ) (ac (qs 2 S kZ) (ac (Gb (pi (G6 (HW (i:=1) S rfl (Or.inl rfl) (Ee (D_read base) (hr.mono (by decide)) rfl (a1 (pv 0)))))) (G7 (i:=3) S rfl rfl rfl c.x_NoText.g (fun a=>ag (qs 2 S (bD (a2 aD (wv (pv 3) rfl))))) (G7 (i:=3) S rfl rfl rfl c.x_NoMachine.g (fun a=>ag (qs 2 S (bD (a2 (wv (pv 3) rfl) (wv (pv 3) rfl))))) Ia))) (ac (bG (g9 (z7 (pv 1))) (ag (aw (pv 2))) aL) (ag (aw (bM (cc (G4 hr (M_Machine_asks base) (pv 1)) (a3 (G4 hr (M_Machine_says base) (pv 1)) (G4 hr (M_Machine_rooms base) (pv 1)) (G4 hr (M_Machine_doors base) (pv 1)))))))))))) (by walk_at "b")
theorem o_(D_law_take:fy P w K mg)(D_law_letters:gG P w K mg):hW P w K mg:=fun base=>dG X G T.f_law_some_sign (fun S _ _ _ _ _ _ _ _ _ hr hu h=>bK (yi h) (ac (bG (lF ej (qf hr (D_law_take base) (a2 (pv 0) af)) af) (ag (aw (xs' aD (qf hr (D_law_take base) (a2 (pv 0) af))))) aL) (ac (qs 1 S aD) (ac (qs 1 S (aJ bh (pv 1) (Ei (D_law_letters base) (hr.mono (by decide)) rfl))) (ag (aw (xs' (pv 1) (qf hr (D_law_take base) (a2 (pv 0) (ql z.len (a1 (pv 1)))))))))))) (by walk_at "b")
theorem pc(D_law_take:fy P w K mg)(D_law_some_sign:hW P w K mg):kh P w K mg:=fun base=>dG X G T.f_law_bent_text (fun S _ _ _ _ _ _ _ _ _ hr hu h=>bK (DW h) (ac (qs 2 S (qf hr (D_law_take base) (a2 (pv 0) (aJ c8 (ql z.len (a1 (pv 1))) af)))) (ac (qs 3 S (qf hr (D_law_take base) (a2 (pv 0) af))) (ac (bG (lF ej (pv 3) af) (ag (aw (aJ bh (aY jT (pv 1) bN (bc (pv 2))) (aY jT (pv 1) (bc (aJ c8 (pv 2) af)) bN)))) aL) (ac (qs 4 S (qf hr (D_law_some_sign base) (a1 (pv 0)))) (ac (bG (lF ej (pv 3) af) (ag (aw (aJ bh (aJ bh (aY jT (pv 1) bN (bc (pv 2))) (pv 4)) (aY jT (pv 1) (bc (pv 2)) bN)))) aL) (ag (aw (aJ bh (aJ bh (aY jT (pv 1) bN (bc (pv 2))) (pv 4)) (aY jT (pv 1) (bc (aJ c8 (pv 2) af)) bN)))))))))) (by walk_at "b")
end
theorem Il(X:K.In h)(G:h.Ns bV mg)(z:Zs mg)(c:Cs K mg C Cx Ct a_STILL a_HEADS C_NoText)(T:Ts K C Cx C_NoText):∃f fd,mg "law"=some (.ref f)/\(∀(s:Shared) (v:Value),rC s fd ⟨[v],[]⟩ [("script",v)])/\∀base:Heap,ik P w K mg base CX0 9 f fd ["script"] (sp_law89 K):=by
 have D_law_spread:j6 P w K mg:=ud X G z c T;have D_law_open:tW P w K mg:=ya X G z c T;have D_law_anew:mY P w K mg:=yb X G z c T;have D_law_take:fy P w K mg:=x9 X G z c T D_law_spread;have D_law_names:lD P w K mg:=v5 X G z c T D_law_take;have D_law_put:pX P w K mg:=zC X G z c T;have D_law_draw_doors:gy P w K mg:=nn X G z c T D_law_take D_law_put;have D_law_model:qw P w K mg:=v6 X G z c T D_law_anew D_law_take D_law_names D_law_draw_doors;have D_law_still_on:iR P w K mg:=qF X G z c T;have D_NoMachine:lE P w K mg Cx:=v7 X G z c T;have D_is_name:pZ P w K mg:=zE X G z c T;have D_as_keys:jF P w K mg:=zJ X G z c T;have D_first_wrong_name:fz P w K mg:=lX X G z c T D_is_name D_as_keys;have D_door_signs:j7 P w K mg:=ue X G z c T;have D_first_wrong_door:fA P w K mg:=lY X G z c T D_as_keys;have D_goals_by_start_and_sign:c_ P w K mg:=iB X G z c T;have D_led_by_still:iQ P w K mg:=qE X G z c T;have D_first_led_round:f6 P w K mg:=mF X G z c T;have D_need_none:jb P w K mg Cx:=v3 X G z c T D_NoMachine;have D_need_parts:j5 P w K mg Cx:=uc X G z c T D_first_wrong_name D_door_signs D_first_wrong_door D_need_none;have D_doors_by_start:gB P w K mg:=nB X G z c T;have D_has_asks_alone:gA P w K mg:=nr X G z c T;have D_Machine:p7 P w K mg C Cx:=zK X G z c T D_as_keys D_goals_by_start_and_sign D_led_by_still D_first_led_round D_need_none D_need_parts D_doors_by_start D_has_asks_alone;have D_NoText:tZ P w K mg C_NoText:=Ci X G z c T;have M_Machine_asks:gb P w K mg C:=qD X G z c T;have M_Machine_says:f_ P w K mg C:=qC X G z c T;have M_Machine_rooms:fe P w K mg C:=o8 X G z c T;have M_Machine_doors:ff P w K mg C:=o9 X G z c T;have D_row_of_door:jm P w K mg:=sy X G z c T;have D_shown:BX P w K mg C:=Dv X G z c T M_Machine_asks M_Machine_says M_Machine_rooms M_Machine_doors D_row_of_door;have D_law_same:tV P w K mg:=x_ X G z c T;have D_law_text_of:mm P w K mg:=sA X G z c T;have D_law_letters:gG P w K mg:=sB X G z c T;have D_law_is_name:jp P w K mg:=sD X G z c T D_law_letters;have D_law_first_wrong:fZ P w K mg:=mE X G z c T D_law_is_name;have D_law_is_sign:jo P w K mg:=sC X G z c T;have D_law_wrong_door:gv P w K mg:=nk X G z c T D_law_is_sign;have D_law_round:lB P w K mg:=v4 X G z c T D_law_still_on;have D_law_due:pY P w K mg:=zD X G z c T D_law_first_wrong D_law_wrong_door D_law_round;have D_is_head:p0 P w K mg:=zG X G z c T;have D_is_door:p4 P w K mg:=zH X G z c T;have D_is_row:tX P w K mg:=Ch X G z c T D_is_head D_is_door;have D_need_rows:lA P w K mg C_NoText:=vZ X G z c T D_NoText D_is_row;have D_door_of:p6 P w K mg:=zI X G z c T;have D_read:AK P w K mg C Cx C_NoText:=FQ X G z c T D_Machine D_need_rows D_door_of;have D_law_good_row:iS P w K mg:=qH X G z c T;have D_law_read_due:lC P w K mg:=qG X G z c T D_law_due D_law_good_row;have D_law_read_told:kg P w K mg:=pb X G z c T M_Machine_asks M_Machine_says M_Machine_rooms M_Machine_doors D_read;have D_law_some_sign:hW P w K mg:=o_ X G z c T D_law_take D_law_letters;have D_law_bent_text:kh P w K mg:=pc X G z c T D_law_take D_law_some_sign;obtain⟨f,a,t⟩:=T.f_law89;obtain⟨oc,od,an,sl,kV,dc,pm,cd,ct,l,c1,k1⟩:=t;have F:=EZ (st:=(gJ 59)) l c1 k1;have sc:fX BV Eb (bq (gJ 59)):=by walk_at "s"
 have S:=sc.nd;exact⟨f,_,eO X G a,fun s v=>.of_eq rfl,fun base=>F.ok (k:=8) sc (by walk_at "l") (fun _ _ _ _ _ _ _ _ hr h=>by have hu:=tf hr;exact bK (DQ (C:=C) h) (ac (qs 1 S (qf hr (D_law_open base) (a1 (pv 0)))) (ac (qs 2 S (qf hr (D_law_text_of base) (a1 (qf hr (D_law_model base) (a3 (pv 1) af (qf hr (D_law_take base) (a2 (pv 1) af))))))) (ac (bG (lF ej (qf hr (D_law_take base) (a2 (pv 1) af)) af) (ag (qs 2 S aD)) aL) (ac (cH ca rfl (jy rfl z.range (a1 (qf hr (D_law_take base) (a2 (pv 1) af)))) (gn 3 S) (ag (qs 2 S (qf hr (D_law_bent_text base) (a2 (pv 1) (pv 2)))))) (ac (qs 4 S (qf hr (D_law_read_due base) (a1 (pv 2)))) (ac (bG (kT (ft (qf hr (D_law_same base) (a2 (qf hr (D_law_read_told base) (a1 (pv 2))) (pv 4))))) (ag (aw j_)) aL) (ac (bG (ft (qB d5 z.isinstance d7 (a2 (pv 4) (kY rfl z.tuple)))) (ag (aw j_)) aL) (ag (aw (qf hr (D_law_same base) (a2 (qf hr (D_shown base) (a1 (Ig (D_read base) (hr.mono (by decide)) rfl (a1 (pv 2))))) (pv 2)))))))))))))⟩
theorem all_mk{l:PySem.W.OpenLaw}{fa:Addr}{nmX qX:Str}{NX:Addr}{bsX subX:Zf}{snX:Zb}{abX:Bool}{colX:Option Bool}{ddX:Option Addr}{k0X k1X k2X k3X k5X:Option Value}{nmT qT:Str}{NT:Addr}{bsT subT:Zf}{snT:Zb}{abT:Bool}{colT:Option Bool}{ddT:Option Addr}{k0T k1T k2T k3T k5T:Option Value}{nmY0 qY0:Str}{NY0:Addr}{bsY0 subY0:Zf}{snY0:Zb}{abY0:Bool}{colY0:Option Bool}{ddY0:Option Addr}{k0Y0 k1Y0 k2Y0 k3Y0 k5Y0:Option Value}{u_LETTERS:Value}{u_LONGEST_NAME:Value}{u_MOST_WORDS:Value}{u_MOST_ROOMS:Value}{u_MOST_DOORS:Value}{o_STILL:Obj}{i_STILL:Array Value}{n_STILL:Nat}{o_HEADS:Obj}{i_HEADS:Array Value}{n_HEADS:Nat}(X:K.In h)(G:h.Ns bV mg)(hfa:mg "law"=some (.ref fa))
  (aC:cF K bV "Machine"=some (some (.ref C)))
  (pg:xN K C Str.empty=true)
  (hd:AM K C=true)
  (po:PySem.W.plainOver K C=true)
  (sa:bW K (.ref C) "__setattr__"=some (some (.builtin "object.__setattr__")))
  (mk:uC K C=true)
  (kc:eh K (.ref C)=true)
  (na1:bW K (.ref C) "own_asks"=some none)
  (na2:bW K (.ref C) "own_says"=some none)
  (na3:bW K (.ref C) "own_rooms"=some none)
  (na4:bW K (.ref C) "own_doors"=some none)
  (na5:bW K (.ref C) "leaving"=some none)
  (na6:bW K (.ref C) "quiet"=some none)
  (na7:bW K (.ref C) "sign_goals"=some none)
  (na8:bW K (.ref C) "still_led"=some none)
  (aX:cF K bV "NoMachine"=some (some (.ref Cx)))
  (aT:cF K bV "TrialError"=some (some (.ref Ct)))
  (xo:K.lookup Cx=some (gX nmX qX Cx NX bsX (.ref Ct::jO) true snX subX abX colX ddX k0X k1X k2X k3X k5X "ValueError.__new__"))
  (xsa:bW K (.ref Cx) "__setattr__"=some (some (.builtin "object.__setattr__")))
  (xga:bW K (.ref Cx) "__getattribute__"=some (some (.builtin "BaseException.__getattribute__")))
  (xgx:bW K (.ref Cx) "__getattr__"=some none)
  (xp:bW K (.ref Cx) "part"=some none)
  (xn:bW K (.ref Cx) "number"=some none)
  (xs1:PySem.W.subIn K (.ref Cx) (.type "BaseException")=some true)
  (xs2:PySem.W.isClsIn K Cx=true)
  (xs3:PySem.W.typeIn K (.ref Cx)=some (.type "type"))
  (xs4:PySem.W.subIn K (.ref Cx) (.ref Cx)=some true)
  (xrd:PySem.W.readsIn K Ct (.type "type")=true)
  (xfi:PySem.W.findCls K (.ref Ct) (.type "type") "__init__"=some (.val (.builtin "ValueError.__init__")))
  (xgt:AL K (.ref Ct) "__getattribute__"=some (some (.builtin "type.__getattribute__")))
  (kx:eh K (.ref Cx)=true)
  (xcl:bW K (.ref Cx) "__class__"=some (some (.builtin "object.__class__")))
  (xgn:AL K (.builtin "object.__class__") "__get__"=some (some (.builtin "getset_descriptor.__get__")))
  (xgk:PySem.W.takesIn K (.builtin "object.__class__")=some true)
  (xoT:K.lookup Ct=some (gX nmT qT Ct NT bsT jO true snT subT abT colT ddT k0T k1T k2T k3T k5T "ValueError.__new__"))
  (aXY0:cF K bV "NoText"=some (some (.ref C_NoText)))
  (xoY0:K.lookup C_NoText=some (gX nmY0 qY0 C_NoText NY0 bsY0 (.ref Ct::jO) true snY0 subY0 abY0 colY0 ddY0 k0Y0 k1Y0 k2Y0 k3Y0 k5Y0 "ValueError.__new__"))
  (xsaY0:bW K (.ref C_NoText) "__setattr__"=some (some (.builtin "object.__setattr__")))
  (xgaY0:bW K (.ref C_NoText) "__getattribute__"=some (some (.builtin "BaseException.__getattribute__")))
  (xgxY0:bW K (.ref C_NoText) "__getattr__"=some none)
  (xclY0:bW K (.ref C_NoText) "__class__"=some (some (.builtin "object.__class__")))
  (kxY0:eh K (.ref C_NoText)=true)
  (xf0Y0:bW K (.ref C_NoText) "number"=some none)
  (nd:[Ct,Cx,C_NoText].Nodup)
  (z_all:cF K bV "all"=some none)
  (z_bool:cF K bV "bool"=some none)
  (z_dict:cF K bV "dict"=some none)
  (z_enumerate:cF K bV "enumerate"=some none)
  (z_int:cF K bV "int"=some none)
  (z_isinstance:cF K bV "isinstance"=some none)
  (z_len:cF K bV "len"=some none)
  (z_list:cF K bV "list"=some none)
  (z_range:cF K bV "range"=some none)
  (z_str:cF K bV "str"=some none)
  (z_tuple:cF K bV "tuple"=some none)
  (z_zip:cF K bV "zip"=some none)
  (g_LETTERS:cF K bV "LETTERS"=some (some u_LETTERS))
  (r_LETTERS:RelV (.str "abcdefghijklmnopqrstuvwxyz") u_LETTERS)
  (g_LONGEST_NAME:cF K bV "LONGEST_NAME"=some (some u_LONGEST_NAME))
  (r_LONGEST_NAME:RelV (.int 8) u_LONGEST_NAME)
  (g_MOST_WORDS:cF K bV "MOST_WORDS"=some (some u_MOST_WORDS))
  (r_MOST_WORDS:RelV (.int 4) u_MOST_WORDS)
  (g_MOST_ROOMS:cF K bV "MOST_ROOMS"=some (some u_MOST_ROOMS))
  (r_MOST_ROOMS:RelV (.int 150) u_MOST_ROOMS)
  (g_MOST_DOORS:cF K bV "MOST_DOORS"=some (some u_MOST_DOORS))
  (r_MOST_DOORS:RelV (.int 2000) u_MOST_DOORS)
  (g_STILL:cF K bV "STILL"=some (some (.ref a_STILL)))
  (l_STILL:K.lookup a_STILL=some o_STILL)
  (c_STILL:o_STILL.cls=.type "tuple")
  (d_STILL:o_STILL.data=.seq i_STILL n_STILL)
  (s_STILL:i_STILL.size<=aj)
  (v_STILL:bg (aG.map V.str) i_STILL.toList)
  (g_HEADS:cF K bV "HEADS"=some (some (.ref a_HEADS)))
  (l_HEADS:K.lookup a_HEADS=some o_HEADS)
  (c_HEADS:o_HEADS.cls=.type "tuple")
  (d_HEADS:o_HEADS.data=.seq i_HEADS n_HEADS)
  (s_HEADS:i_HEADS.size<=aj)
  (v_HEADS:bg (eZ.map V.str) i_HEADS.toList)
  (T:Ts K C Cx C_NoText)
 :∃fd:hZ,(∀(s:Shared) (v:Value),rC s fd ⟨[v],[]⟩ [("script",v)])/\∀base:Heap,K.In base->base.Ns bV mg->ik l.prog w K mg base CX0 9 fa fd ["script"] (sp_law89 K):=by
 have z:Zs mg:=⟨gV X G z_all,gV X G z_bool,gV X G z_dict,gV X G z_enumerate,gV X G z_int,gV X G z_isinstance,gV X G z_len,gV X G z_list,gV X G z_range,gV X G z_str,gV X G z_tuple,gV X G z_zip⟩;have c:Cs K mg C Cx Ct a_STILL a_HEADS C_NoText:=⟨⟨_,eO X G g_LETTERS,r_LETTERS⟩,⟨_,eO X G g_LONGEST_NAME,r_LONGEST_NAME⟩,⟨_,eO X G g_MOST_WORDS,r_MOST_WORDS⟩,⟨_,eO X G g_MOST_ROOMS,r_MOST_ROOMS⟩,⟨_,eO X G g_MOST_DOORS,r_MOST_DOORS⟩,⟨_,eO X G g_STILL,rfl⟩,⟨_,eO X G g_HEADS,rfl⟩,A5 l_STILL c_STILL d_STILL s_STILL v_STILL,A5 l_HEADS c_HEADS d_HEADS s_HEADS v_HEADS,⟨⟨pg,hd,po,sa⟩,na1,na2,na3,na4,na5,na6,na7,na8⟩,eO X G aC,mk,kc,⟨⟨⟨_,_,_,_,_,_,_,_,_,_,_,_,_,_,_,xo,.own .base⟩,xsa,xga,xgx⟩,xp,xn,Iu xs1 xs2 xs3 xs4⟩,⟨xrd,xfi,xgt⟩,eO X G aX,eO X G aT,kx,⟨⟨_,_,_,_,_,_,_,_,_,_,_,_,_,_,xoT⟩⟩,⟨xgn,xgk⟩,⟨eO X G aX,⟨⟨_,_,_,_,_,_,_,_,_,_,_,_,_,_,xo⟩⟩,xsa,xga,xgx,kx,xcl⟩,nd,⟨eO X G aXY0,⟨⟨_,_,_,_,_,_,_,_,_,_,_,_,_,_,xoY0⟩⟩,xsaY0,xgaY0,xgxY0,kxY0,xclY0⟩,xf0Y0⟩;obtain⟨f,fd,e,b,k⟩:=Il (P:=l.prog) (w:=w) X G z c T;have e0:=hfa.symm.trans e;cases e0;exact⟨fd,b,fun base _ _=>k base⟩
end
end Mum
namespace PySem.W.Fast
def tw7243832604586011775:=0
def tw7807802379118191849:=0
def tw2910396399324739136:=0
def tw2098607421351802894:=0
def tw4997601466965495876:=0
def tw11889048532373068399:=0
def tw7379850456295287261:=0
def tw12250213886863787581:=0
def tw14607852973260136307:=0
def tw12922738590545849697:=0
def tw13595685715902680406:=0
def tw7118290956970241182:=0
def tw2243790019144938461:=0
def tw4178486005729294676:=0
def tw3986449398247915076:=0
def tw16645189297513563059:=0
def tw2393961200739093917:=0
def tw11614245350369655422:=0
def tw6110680273809391697:=0
def tw11626326338166676581:=0
def tw10189271108620562366:=0
def tw1355174405031557599:=0
def tw6009576456445791074:=0
def tw6481065331253440714:=0
def tw90747053296029925:=0
def tw9840888624481893275:=0
def tw1673852463404281565:=0
def tw9726396727087943753:=0
def tw9101696806063658011:=0
def tw4354892323178304136:=0
def tw9717409707943577167:=0
def tw5303885480768812459:=0
def tw3013326847330082219:=0
def tw9870029433762001652:=0
def tw11535282911535021214:=0
def tw5529502131048246762:=0
def tw13961218517455172986:=0
def tw15761809306826762725:=0
def tw12189368670767690752:=0
def tw2875639057410488571:=0
def tw10589290029044926108:=0
def tw15061488285026936122:=0
def tw15811855869265089370:=0
def tw3732867119442479135:=0
def tw6089142000564480117:=0
def tw7043381119035058132:=0
def tw16217226564873843207:=0
def tw11761652287206586779:=0
def tw14907908669671951146:=0
def tw8451693749462130609:=0
def tw16875169071145246319:=0
def tw1068008980376047647:=0
def tw3665189029901984940:=0
def tw6066888924366875671:=0
def tw10387715132195628784:=0
def tw7778587502089960188:=0
def tw10584574796726333069:=0
def tw2990289426743077834:=0
def tw380271587611934984:=0
def tw7196784944887201380:=0
def tw2507343097408806964:=0
def tw2557402834203305639:=0
def tw10151028071919103214:=0
def tw1714834532788355121:=0
def tw12252833172777981688:=0
def tw3741360206574714033:=0
def tw8737628668841384468:=0
def tw17112311215556742684:=0
def tw16204265446098587004:=0
def tw5887037113829439937:=0
def tw10934556849958701730:=0
def tw10952942390769328329:=0
def tw10215022205074138559:=0
def tw15955317866326421081:=0
def tw12773409620722151165:=0
def tw8723585939399616020:=0
def tw8449533189424901206:=0
def tw15133407941764787750:=0
def tw1713126852778613713:=0
def tw1886765790077427918:=0
def tw10439817064441167917:=0
def tw1466728730755276607:=0
def tw4945308135558459355:=0
def tw13055728840840141372:=0
def tw9307132215197039200:=0
def tw6781932571929836108:=0
def tw12476484347495397972:=0
def tw3106387910317577664:=0
def tw13583190712542963326:=0
def tw2265742929503116443:=0
def tw15580909470195964092:=0
def tw6882461253682704741:=0
def tw8237319821538526249:=0
def tw15953993587564872553:=0
def tw9101688522782967137:=0
def tw17998290094943554900:=0
def tw5945087388825426862:=0
def tw2232288186550249525:=0
def tw11312868356699303918:=0
def tw7434311392781901046:=0
def tw17300356238054884317:=0
def tw13125988292763975357:=0
def tw17867708740924193644:=0
def tw16829863413966146010:=0
def tw4650929826280742661:=0
def tw3013514741592864786:=0
def tw11779599858902842104:=0
def tw9642488021918518859:=0
def tw13985506842374171917:=0
def tw14957489918333185810:=0
def tw9598050894207669328:=0
def tw7578577978866810230:=0
def tw11690435019295045940:=0
def tw5053639577429094544:=0
def tw12697274317888399520:=0
def tw2065726582707438652:=0
def tw11619965594049751226:=0
def tw18441839400641113517:=0
def tw18339731619999105973:=0
def tw4978813187975798228:=0
def tw12982468751443172432:=0
def tw18000693221997264739:=0
def tw17259851237754047955:=0
def tw11101628024873325401:=0
def tw12563894855451253677:=0
def tw14503789999651063632:=0
def tw4603067656515882869:=0
def tw9489617011928139938:=0
def tw15669384267728207502:=0
def tw14490618145086821725:=0
def tw12304804628556060327:=0
def tw15578937338673024277:=0
def tw16137780856789220352:=0
def tw16397324656193434369:=0
def tw4422170349620798628:=0
def tw2309695640952012590:=0
def tw3204171584491096246:=0
def tw6800385745523984438:=0
def tw12370917174178641795:=0
def tw6436639669540370026:=0
def tw10424805672987217418:=0
def tw14103510306551202755:=0
def tw1842914393168343034:=0
def tw4311583831139291359:=0
def tw3926372556873533491:=0
def tw16861382522827539637:=0
def tw8627138655462159536:=0
def tw909990845375777718:=0
def tw14341190329679728289:=0
def tw10566854812321558102:=0
def tw1098940200898037882:=0
def tw6713047314126996247:=0
def tw13423283092539028413:=0
def tw7333972992871600506:=0
def tw6531442012172033275:=0
def tw6680811358986992629:=0
def tw18170484241883546002:=0
def tw9555767148843666063:=0
def tw16061034442413329209:=0
def tw13505503637306018060:=0
def tw13394948093940866391:=0
def tw12568226319252427939:=0
def tw11090993247782973606:=0
def tw759691718147408831:=0
def tw4336012355525657204:=0
def tw10001440304668841045:=0
def tw16227435444504406393:=0
def tw11267687261898552019:=0
def tw2530669635172197482:=0
def tw8108139511412663691:=0
def tw10824421962613050528:=0
def tw5708464397325172572:=0
def tw2381926551246278458:=0
def tw4911987706472492082:=0
def tw10446494228856181465:=0
def tw1366899312599895108:=0
def tw17719571241056027387:=0
def tw14065419032534904441:=0
def tw11671694640436671870:=0
def tw2227324217723725560:=0
def tw15910826280280607705:=0
def tw11015063101984953164:=0
def tw10050059645339001345:=0
def tw13360771642033478080:=0
def tw510903614494804108:=0
def tw11718138246989122721:=0
def tw9755411281289807714:=0
def tw7167766733137318218:=0
def tw1604213447076176522:=0
def tw2842023491652179759:=0
def tw13263643714297570612:=0
def tw10055517805695858587:=0
def tw14012664037451917087:=0
def tw4148830590956076217:=0
def tw8591104655068219893:=0
def tw7278899460050157899:=0
def tw5788435751726027913:=0
def tw7644205135297364477:=0
def tw3215924558468214915:=0
def tw1526417591974461658:=0
def tw9939245604446719396:=0
def tw7997229343259801330:=0
def tw11352463738703895554:=0
def tw3598582915527130204:=0
def tw6783228547357415268:=0
def tw12574464850176805312:=0
def tw6237695204729889318:=0
def tw2886564134186058005:=0
def tw17576579135322501827:=0
def tw13125518986563948861:=0
def tw11712345293805019967:=0
def tw7565098095162218699:=0
def tw4593509656240288763:=0
def tw5119010673216070573:=0
def tw6346750057581037076:=0
def tw4839234560710243002:=0
def tw9252124076393112784:=0
def tw18404185812658707811:=0
def tw5692406910012157974:=0
def tw12671642018908952869:=0
def tw6794190325620392348:=0
def tw11760160196609487398:=0
def tw18285618197798448654:=0
def tw6166437038859760022:=0
def tw8045491641107609786:=0
def tw10740327326590264626:=0
def tw6712823587144487109:=0
def tw16046066070426796897:=0
def tw13024305312020527619:=0
def tw12485597419134234006:=0
def tw13110861604828131678:=0
def tw7542261863699271459:=0
def tw7469590943102549415:=0
def tw12097764529630996632:=0
def tw17189134612412702046:=0
def tw12910509564985302688:=0
def tw4897401527340664291:=0
def tw11687451922845895121:=0
def tw14433848396271317615:=0
def tw15713636619985084682:=0
def tw4514282066649611825:=0
def tw9380526783207565149:=0
def tw13679238172958760046:=0
def tw6404147708396754465:=0
def tw5760810771498762061:=0
def tw11680907250460209958:=0
def tw4492889127132362631:=0
def tw13540062670418177274:=0
def tw6431220821696931175:=0
def tw6434655335076578708:=0
def tw16983588870152128605:=0
def tw10539380219697647613:=0
def tw17908574168615343162:=0
def tw3394824064888494383:=0
def tw3873928435910766005:=0
def tw12051084054350050535:=0
def tw1022282749339202475:=0
def tw2257111815923253364:=0
def tw16066550002888292459:=0
def tw9217156478738056121:=0
def tw14642921401192284845:=0
def tw676894983605003912:=0
def tw10944828893772933865:=0
def tw9381232598612696691:=0
def tw4934343539914564301:=0
def tw6690422233610881375:=0
def tw4948832326187610731:=0
def tw9414869334889754457:=0
def tw7703839816202079886:=0
def tw15181815434473057088:=0
def tw17732726175673634730:=0
def tw16143733410726920568:=0
def tw6946841191144871034:=0
def tw15688282870166620693:=0
def tw9090413714983372295:=0
def tw17701387586855299260:=0
def tw15294783855640147386:=0
def tw14559976767920398476:=0
def tw2944912453800032881:=0
def tw16243268854622485005:=0
def tw15959164186696231199:=0
def tw15176323092515520645:=0
def tw16385447117535535187:=0
def tw9087912388219526761:=0
def tw16951767779422497836:=0
def tw15391843226158860328:=0
def tw396546099671288823:=0
def tw16055685405909805577:=0
def tw17598397600259482773:=0
def tw14252040347483786493:=0
def tw16486988026439320645:=0
def tw2128038477231219698:=0
def tw7590721323442608310:=0
def tw11541798226844642636:=0
def tw1147390462096698306:=0
def tw16078110615411552480:=0
def tw11494444184447039043:=0
def tw11080640375426404024:=0
def tw8627246819024022353:=0
def tw2271583445689849515:=0
def tw8543948432852846225:=0
def tw2428476693972882004:=0
def tw5701418868285108692:=0
def tw5401307455027536980:=0
def tw3855179578673106600:=0
def tw6981173599288233002:=0
def tw4959596987919262357:=0
def tw16710525806635347654:=0
def tw10222461882065871572:=0
def tw4060982196619560078:=0
def tw12457975670427628371:=0
def tw11748705932173322669:=0
def tw3124151830562780577:=0
def tw14673976531484706524:=0
def tw5117660490086733775:=0
def tw15347747224028444480:=0
def tw17585757438632679412:=0
def tw2264057769645831787:=0
def tw10086836979522621367:=0
def tw15381562260066285556:=0
def tw13294494891284010701:=0
def tw11296212989058616877:=0
def tw14331622059597833129:=0
def tw8881716431180249634:=0
def tw8472208538388948921:=0
def tw18087850446779339698:=0
def tw6966669584785291620:=0
def tw10798006248330543165:=0
def tw11927581991787855128:=0
def tw3707584188518026751:=0
def tw13126330964718153625:=0
def tw4313967129829078712:=0
def tw11672262062190031587:=0
def tw17274814575204770584:=0
def tw9152281600343951906:=0
def tw1388489269487313435:=0
def tw12842147990560283308:=0
def tw14496934738542272049:=0
def tw16337236763671151349:=0
def tw9332917080563315206:=0
def tw4562061072835496949:=0
def tw4212300735610867460:=0
def tw13310711109467758501:=0
def tw7297468892392995585:=0
def tw9894355805359323606:=0
def tw5192498069210531625:=0
def tw17277488804314472940:=0
def tw18312173748618949952:=0
def tw3503991016216004642:=0
def tw17174163403711862299:=0
def tw5153885560519462593:=0
def tw15748599715796866518:=0
def tw8279547747638383936:=0
def tw17370903054742848076:=0
def tw11087906047000980419:=0
def tw12490264654403664860:=0
def tw3343496430667480921:=0
def tw9582964333226790130:=0
def tw14712055126503068753:=0
def tw8527456851659818041:=0
def tw2762501799782036070:=0
def tw2134809930075052132:=0
def tw13511921502666908415:=0
def tw2293169515668980096:=0
def tw5323331218711162484:=0
def tw1610079382524982994:=0
def tw14263619990819489647:=0
def tw6629885305852048192:=0
def tw11767643314025799490:=0
def tw5102783312914560312:=0
def tw8527952156183563609:=0
def tw15099663963207132065:=0
def tw13863182205884601110:=0
def tw13913303063447715655:=0
def tw9935383935133461828:=0
def tw8237693305825805946:=0
def tw11827691428187473878:=0
def tw13993736876199213260:=0
def tw9178564465519160783:=0
def tw12183615591906144407:=0
def tw1160014321369123483:=0
def tw2336985865337315573:=0
def tw6470410736706968556:=0
def tw7792454249285699684:=0
def tw16516141275417790745:=0
def tw2320938036097822408:=0
def tw15106940816723713022:=0
def tw13420189936802840423:=0
def tw15246370415112176901:=0
def tw1005157379059676319:=0
def tw3328025383321316706:=0
def tw14610359779288760991:=0
def tw10438080215181634138:=0
def tw2374010772553817064:=0
def tw14805920769311763335:=0
def tw10122133955551113303:=0
def tw18315757559005378996:=0
def tw1007998364475431482:=0
end PySem.W.Fast
open PySem PySem.W PyProof.Rows
set_option maxRecDepth 100000 in
set_option maxHeartbeats 0 in
theorem PySem.Challenge.cw_mumtrial_k89_whole_texts_holds : PySem.Challenge.rw_mumtrial_k89_whole_texts.Holds := by
 w_on;o_law;k_head;(case hw=>w_witness2)
 k_fill
 refine L2.walk_ofK (l:=PySem.Challenge.rw_mumtrial_k89_whole_texts) (n:=63) (k:=9) (x:="script") (CX:=L2.CX0) (sp:=Mum.sp_law89) rfl (by decide) rfl ⟨rfl,by decide,by decide⟩ (fun w h Y=>PySem.W.kIn_of Y) ?F (fun _ _ a ns hl _ hS=>⟨a,ns,rfl,hS,hl,fun _=>rfl⟩) (fun _ _ _ _ z=>z)
 case F =>
  intro w mg fa h KX G hmg;refine' Mum.all_mk KX G hmg ?aC ?pg ?hd ?po ?sa ?mk ?kc ?na1 ?na2 ?na3 ?na4 ?na5 ?na6 ?na7 ?na8 ?aX ?aT ?xo ?xsa ?xga ?xgx ?xp ?xn ?xs1 ?xs2 ?xs3 ?xs4 ?xrd ?xfi ?xgt ?kx ?xcl ?xgn ?xgk ?xoT ?aXY0 ?xoY0 ?xsaY0 ?xgaY0 ?xgxY0 ?xclY0 ?kxY0 ?xf0Y0 ?nd ?z_all ?z_bool ?z_dict ?z_enumerate ?z_int ?z_isinstance ?z_len ?z_list ?z_range ?z_str ?z_tuple ?z_zip ?g_LETTERS ?r_LETTERS ?g_LONGEST_NAME ?r_LONGEST_NAME ?g_MOST_WORDS ?r_MOST_WORDS ?g_MOST_ROOMS ?r_MOST_ROOMS ?g_MOST_DOORS ?r_MOST_DOORS ?g_STILL ?l_STILL ?c_STILL ?d_STILL ?s_STILL ?v_STILL ?g_HEADS ?l_HEADS ?c_HEADS ?d_HEADS ?s_HEADS ?v_HEADS ?T
  (case aC|pg|hd|po|sa|mk|kc|na1|na2|na3|na4|na5|na6|na7|na8|aX|aT|xo|xsa|xga|xgx|xp|xn|xs1|xs2|xs3|xs4|xrd|xfi|xgt|kx|xcl|xgn|xgk|xoT|aXY0|xoY0|xsaY0|xgaY0|xgxY0|xclY0|kxY0|xf0Y0=>k_is)
  (case nd=>decide)
  (case z_all|z_bool|z_dict|z_enumerate|z_int|z_isinstance|z_len|z_list|z_range|z_str|z_tuple|z_zip|g_LETTERS=>k_is)
  (case r_LETTERS=>exact⟨_,rfl⟩)
  (case g_LONGEST_NAME=>k_is)
  (case r_LONGEST_NAME=>exact⟨_,rfl⟩)
  (case g_MOST_WORDS=>k_is)
  (case r_MOST_WORDS=>exact⟨_,rfl⟩)
  (case g_MOST_ROOMS=>k_is)
  (case r_MOST_ROOMS=>exact⟨_,rfl⟩)
  (case g_MOST_DOORS=>k_is)
  (case r_MOST_DOORS=>exact⟨_,rfl⟩)
  (case g_STILL|l_STILL=>k_is)
  (case c_STILL|d_STILL=>rfl)
  (case s_STILL=>decide)
  (case v_STILL=>exact .cons ⟨_,rfl⟩ .nil)
  (case g_HEADS|l_HEADS=>k_is)
  (case c_HEADS|d_HEADS=>rfl)
  (case s_HEADS=>decide)
  (case v_HEADS=>exact .cons ⟨_,rfl⟩ (.cons ⟨_,rfl⟩ (.cons ⟨_,rfl⟩ .nil)))
  (case T=>constructor<;>first|(refine' Mum.fnG_mk ?a ?l ?c ?k;(case a=>k_is);(case l=>k_is);(case c=>k_is);(case k=>k_is))|(refine' Mum.fnM_mk ?a ?i ?l ?c ?k;(case a=>k_is);(case i=>k_is);(case l=>k_is);(case c=>k_is);(case k=>k_is)))
