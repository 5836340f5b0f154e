
import PyProof.Rows.All
import Wide.All
import OpenK.AllK
import Wide.FinOn
import Lean
import PyProof.EqAt
import PyProof.EqKinds
import PyProof.TupleCall
import PyProof.NeKinds
import PyProof.RaisesMany
import PyProof.RulesAs
import PyProof.NsDelKeeps
import PyProof.InstStoreFacts
import PyProof.ExcClass3
import PyProof.ExcInit
import KE.KTryMore
import PyProof.AutoSeq1
import PyProof.WalkInts
import PyProof.DictIter
import PyProof.DictWalks
import PyProof.DictItems
import PyProof.DictItemsLoops
import KE.KPairComp
import PyProof.DictValues
import PyProof.SumAny
import PyProof.Rows.SumAny
import PyProof.Rows.RuleDivmod
import KE.KRevIter
import PyProof.TupleOfGen
import KE.KDictSum
import PySem.Challenge.RW_mumtrial_k16_wide
noncomputable section
open PySem renaming Program->aU,reduceHash->B3,wpAny_mono->bV,wpAny_bind->ac,wpAny_specialOf->A2,wpAny_call_entry->lm,wpAny_pure->ak,wpAny_rule->mZ,Builtin->aS,isInstance->z5,wpAny_isInstance->tQ,wpAny_holding->fz,wpAny_truthy_bool->qP,wpAny_seqItems->i9,sizeLine->aj,sysModules->d4,mainGlobals->ba,bootBuiltins->gZ,GenState->zY,spliced->tO,starEach->aq,compareOp->dZ,behindInMarks->jP,standAt->mY,holding->i7,wpAny_execs_nil->mW,wpAny_execs_cons->zW,swapsWith->jX,assignEach->tN,wpAny_standAt->wq,PassesOwn->wo,wpAny_passesOwn->iw,letOwnedTupleGo->zV,wpAny_pyIter_list->zU,wpAny_pyIter_tuple->zT,foldedSetIterable->tL,binaryOp->pC,sizeLine_eq->zS,getMethod->mV,codeAny->zzl87,attributeBase->jW,FuncData->eX,BindsTo->md,wpAny_call->ju,codeAny_mono->ma,wpAny_Call_Name_kw->j_,callWith->l9,backToKw->iY,keywordEach->iX,NameKind->fH,mem_of_lookup->rq,typeLookup->j9,getItem->lY,subscripted->vd,sliceBounds->lX,wpAny_Call_method0_late->rp,evalArgs_none->vc,Keyword->oH,call_meets->vb,valueAt->lV,callerA->j8,DictEntry->fF,noteFrame->oC,wpAny_newObj_type->gm,ZipApart->fE,wpAny_pyIter_zip->q_,wpAny_callSpecial?_slot->iT,wpAny_field->be,wpAny_setField->iS,firstArgMember->oA,wpAny_setField_rec->gk,wpAny_onRaise->qZ,wpAny_letGo->oz,wpAny_attempt->iQ,isSubtype_stop->uZ,wpAny_dictEntries->lT,wpAny_notOrdered_dict->uW,getAttr?->uV,codeAny_builtin->qU,plainId_quiet->qR,excClassObj->eQ,checkBuiltinCall->uT,wpAny_loadPart_at->js,wpAny_isSubtype_exc->qQ,setFlight->qO,ExceptHandler->uS,setField->qN,IsItemIter->g7,wpAny_dictEpoch->ow,wpAny_typeNameOfWhole_itemiter->uP,wpAny_typeNameOf_itemiter->uO,wpAny_fieldsOf->uN,wpAny_typeNameOfWhole_valiter->uM,wpAny_typeNameOf_valiter->uL,updateSeq->qH,wpAny_updateSeq->qG
open PySem.Builtin.Tuple renaming tupleHashOf->xW
open PySem.Value renaming builtin->wr
open Bool renaming false_ne_true->fX,not_true->zZ,false_eq_true->g_,eq_iff_iff->tK,and_false->va,and_eq_true->u8,true_and->qF
open Array renaming forIn_toList->D2,length_toList->lJ,getElem?_eq_some_iff->iP,getElem?_eq_getElem->iN,getElem?_eq_none->oo
open Nat renaming add_assoc->tR,le_refl->az,lt_of_lt_of_le->cb,lt_irrefl->jQ,ne_of_lt->bB,le_trans->bN,le_of_lt->dB,ne_of_gt->cI,zero_le->dY,le_succ->iW,lt_of_le_of_lt->rg,le_add_right->rc,not_le_of_lt->iO,lt_or_ge->lS,eq_zero_or_pos->qJ,mod_lt->eP,lcm->dQ
open List renaming append_nil->cp,range->bO,mem_filter->c8,mem_range->i8,filterMap_cons->tP,mem_cons_self->b_,mem_cons_of_mem->cO,mem_cons->bA,mem_append->bM,mem_append_left->eM,getElem?_eq_some_iff->gE,getElem?_set_ne->zX,mem_append_right->dA,length_cons->dj,lookup->jO,map_cons->bg,length_map->ao,nodup_cons->dC,replicate->vg,length_take->bf,getElem?_append_right->oJ,getElem?_append_left->oI,getElem?_map->cX,mem_of_getElem?->gp,length_append->aL,length_drop->jt,size_toArray->bt,find?_cons->oG,any_cons->u_,length_nil->rm,nodup_nil->oF,map_nil->oE,lookup_cons->hJ,forIn_cons->lU,mem_map->ay,not_mem_nil->iU,forIn_nil->u6,getElem?_eq_none->fD,map_congr_left->oy,length_range->j3,drop_zero->qV,take_length->bC,getElem?_eq_getElem->bZ,mem_singleton->eT,map_append->aD,nodup_append->cD,drop_of_length_le->uU,contains_cons->eR,getElem?_of_mem->qI,mem_of_mem_take->gj,append_assoc->g6,nodup_iff_pairwise_ne->jY,pairwise_map->uK,map_map->eO,sum_cons->uJ,foldl_append->qE,mem_map_of_mem->oh,length_filter_le->iM,filter_append->uI,filter_congr->qD,getElem_mem->og,getD_eq_getElem?_getD->ez,find?_cons_of_pos->uH,find?_cons_of_neg->uG
open Option.some renaming inj->eJ
open PySem.W renaming instObj->pD,lookIn->zR,plainGet->tJ,hasDictIn->wn,findIn->aR,isFn->wm,plainOver->zQ,makesIn->pB,emptyDict->mU,keepIn->dh,specialIn->zP,kitOne->gC,kia_one->iu,callWith_K->l_,fnOf->hU,codeIn->lZ,exmOne->uR,nsIn->bo,mg_of->cP,mg_none_of->eN
open PySem.Heap renaming lt_size->ar,SameBut->dP,get?_push_of_some->aF,get?_push_size->bF,size_push->gD,get?_update_self->eU,get?_update_other->fG
open PyProof.Rows renaming AllBare->lK,callWith_type1->tM,IntsAre->rh
open Ne renaming symm->br
open False renaming elim->bx
open True renaming intro->fy
open PySem.Calls renaming spliced_nil->wl,spliced_cons->oK,callWith_builtin->lW
open Option renaming isSome_iff_exists->rA,map_some->rn
open Int renaming toNat_natCast->eW,emod_nonneg->ol,emod_lt_of_pos->oj,eq_ofNat_of_zero_le->jZ
open PySem.Obj renaming mapSeq->eV,isFreed_of_fields->oB,data_mapFields->iR,mapFields->fC
open PySem.Paired renaming snoc->iV
open ForInStep renaming yield->u9
open PySem.NameKind renaming free->j7
open PySem.Builtin.SmallTypes renaming nextOf->gl,ownedTupleIsFree->j5
open PySem.Str renaming ofString->hG
open PySem.F renaming slot_tuple_iterator_next->u7,slot_zip_next->j4,entry_zip_next->u5,args_zip_next_1->u3,slot_dict_itemiterator_next->qM,slot_dict_valueiterator_next->qK,plain_extend_loop->om,plainAttrs_list->g0,slot_list_append->jr,type_list_append->jq
open PySem.Heap.SameBut renaming update->j6
open PySem.Shared renaming heap->uY
open Classical renaming byContradiction->qY
open PySem.SeqAt renaming EqAt->aQ
open PySem.Builtin.Str renaming strSliceIndices->qW
open PySem.Txt renaming join->uX
open PySem.Around renaming under_plainId->qS
open PySem.Builtin.Dict renaming showsAll->uQ
open PySem.Builtin.Dict_items renaming ownsTuple->oq
open PySem.PassesOwn renaming never->cq
theorem Q0:0<=PySem.sizeLine:=by decide
theorem Q1:1<=PySem.sizeLine:=by decide
theorem Q2:2<=PySem.sizeLine:=by decide
theorem Q3:3<=PySem.sizeLine:=by decide
theorem Q4:4<=PySem.sizeLine:=by decide
theorem Q6:6<=PySem.sizeLine:=by decide
theorem zzr0{p:Prop}[Decidable p](h:¬p):decide p=false:=decide_eq_false h
theorem zzr1{p:Prop}[Decidable p](h:p):decide p=true:=decide_eq_true h
abbrev Za:=PySem.W.Frag
abbrev Zb:=List PySem.Str
abbrev Zc:=PySem.Value->PySem.Shared->Prop
abbrev Zd:=List (PySem.Addr×PySem.Obj)
abbrev Ze:=List PySem.Addr
abbrev Zf:=List PySem.Value
section
set_option Elab.async false
set_option linter.all false
set_option maxRecDepth 100000
set_option maxHeartbeats 4000000
namespace L2
open PySem PySem.Spec PyProof.Rows
open Sem (wp)
abbrev dg:=Sum Int Str
def dq:dg->Value->Bool
 |.inl k,v=>Value.isInt k v
 |.inr x,v=>Value.isStrOf x v
def Hr(w:World):dg->Int
 |.inl k=>hashInt k
 |.inr x=>hashStr w x
theorem ax:∀{k:dg}{v:Value},dq k v=true->(∃i t,k=Sum.inl i/\v=Value.int i t)∨(∃x t,k=Sum.inr x/\v=Value.str x t)
 |.inl i,v,h=>by
  obtain⟨t,e⟩:=Value.isInt_shape (k:=i) (v:=v) h;exact .inl ⟨i,t,rfl,e⟩
 |.inr x,v,h=>by
  obtain⟨t,e⟩:=Value.isStrOf_shape (x:=x) (v:=v) h;exact .inr ⟨x,t,rfl,e⟩
theorem kW(i:Int)(t:Tok):dq (.inl i) (.int i t)=true:=by simp[dq,Value.isInt]
theorem kU(x:Str)(t:Tok):dq (.inr x) (.str x t)=true:=by simp[dq,Value.isStrOf]
theorem y0(a b:Int):decide ((Sum.inl a:dg)=Sum.inl b)=(a==b):=by
 by_cases e:a=b
 ·subst e;simp
 ·have h:¬(Sum.inl a:dg)=Sum.inl b:=fun q=>e (Sum.inl.inj q);rw[zzr0 h];exact(beq_eq_false_iff_ne.mpr e).symm
theorem yX(a b:Str):decide ((Sum.inr a:dg)=Sum.inr b)=decide (a=b):=by
 by_cases e:a=b
 ·subst e;simp
 ·have h:¬(Sum.inr a:dg)=Sum.inr b:=fun q=>e (Sum.inr.inj q);rw[zzr0 h,zzr0 e]
theorem yZ(a:Int)(b:Str):decide ((Sum.inl a:dg)=Sum.inr b)=false:=zzr0 (fun q=>nomatch q)
theorem yY(a:Str)(b:Int):decide ((Sum.inr a:dg)=Sum.inl b)=false:=zzr0 (fun q=>nomatch q)
def bv(prog:aU)(w:World):PySem.KeyKind prog w dg where
 is:=dq
 hash:=Hr w
 inj:=fun v a b ha hb=>by
  rcases ax ha with⟨i,t,rfl,rfl⟩|⟨x,t,rfl,rfl⟩
  ·rcases ax hb with⟨j,u,rfl,e⟩|⟨y,u,rfl,e⟩
   ·injection e with e1 _;rw[e1]
   ·exact nomatch e
  ·rcases ax hb with⟨j,u,rfl,e⟩|⟨y,u,rfl,e⟩
   ·exact nomatch e
   ·injection e with e1 _;rw[e1]
 byValue:=fun k v h=>by
  rcases ax h with⟨i,t,rfl,rfl⟩|⟨x,t,rfl,rfl⟩<;>rfl
 pyHash:=fun hv h=>by
  rcases ax hv with⟨i,t,rfl,rfl⟩|⟨x,t,rfl,rfl⟩
  ·exact wpAny_pyHash_int h
  ·exact wpAny_pyHash_str h
 eqBool:=fun hu hv h=>by
  rcases ax hu with⟨i,t,rfl,rfl⟩|⟨x,t,rfl,rfl⟩
  ·rcases ax hv with⟨j,u,rfl,rfl⟩|⟨y,u,rfl,rfl⟩
   ·rw[y0]at h;exact wpAny_eqBool_int h
   ·rw[yZ]at h;exact aQ.int_str i t y u _ _ _ _ h
  ·rcases ax hv with⟨j,u,rfl,rfl⟩|⟨y,u,rfl,rfl⟩
   ·rw[yY]at h;exact aQ.str_int x t j u _ _ _ _ h
   ·rw[yX]at h;exact wpAny_eqBool_str h
 «strs»:=fun k x t v h=>by
  rcases ax h with⟨i,u,rfl,e⟩|⟨y,u,rfl,e⟩
  ·exact nomatch e
  ·injection e with e1 _;subst e1;cases v<;>rfl
theorem xh(a:aU)(w:World)(i:Int)(t:Tok):(bv a w).is (.inl i) (.int i t)=true:=kW i t
theorem xf(a:aU)(w:World)(x:Str)(t:Tok):(bv a w).is (.inr x) (.str x t)=true:=kU x t
end L2
namespace L2
open PySem PySem.Spec PyProof.Rows
open Sem (wp)
abbrev mN:=Option dg
def ic:mN->Value->Bool
 |none,v=>match v with
  |.none=>true
  |_=>false
 |some k,v=>dq k v
def FH(w:World):mN->Int
 |none=>B3 4238894112
 |some k=>Hr w k
theorem bj:∀{k:mN}{v:Value},ic k v=true->(∃i t,k=some (Sum.inl i)/\v=Value.int i t)∨(∃x t,k=some (Sum.inr x)/\v=Value.str x t)∨(k=none/\v=Value.none)
 |none,v,h=>by
  refine .inr (.inr ⟨rfl,?_⟩);cases v<;>first|rfl|cases h
 |some k,v,h=>by
  rcases ax (show dq k v=true from h)with⟨i,t,rfl,rfl⟩|⟨i,t,rfl,rfl⟩
  ·exact .inl ⟨i,t,rfl,rfl⟩
  ·exact .inr (.inl ⟨i,t,rfl,rfl⟩)
theorem si{a b:mN}{v:Value}(d:ic a v=true)(f:ic b v=true):a=b:=by
 rcases bj d with⟨i,t,rfl,rfl⟩|⟨i,t,rfl,rfl⟩|⟨rfl,rfl⟩<;>rcases bj f with⟨j,u,rfl,e⟩|⟨j,u,rfl,e⟩|⟨rfl,e⟩<;>first|rfl|(cases e;rfl)|cases e
def w_(prog:aU)(w:World):PySem.KeyKind prog w mN where
 is:=ic
 hash:=FH w
 inj:=fun v a b ha hb=>si ha hb
 byValue:=fun k v h=>by
  rcases bj h with⟨i,t,rfl,rfl⟩|⟨x,t,rfl,rfl⟩|⟨rfl,rfl⟩<;>rfl
 pyHash:=fun{A E s k v Q} hv h=>by
  rcases bj hv with⟨i,t,rfl,rfl⟩|⟨x,t,rfl,rfl⟩|⟨rfl,rfl⟩
  ·exact wpAny_pyHash_int h
  ·exact wpAny_pyHash_str h
  ·refine PySem.W.pyHash_slot (T:="NoneType") rfl F.slot_NoneType_hash F.entry_NoneType_hash (F.args_NoneType_hash_1 _) (by rw[beq_builtin_none]) (.inl rfl) ?_;show wpAny _ _ (retInt 4238894112) _ _ _;refine bV (wpAny_ret_mkInt (Q:=fun v s'=>∃n t,v=Value.int n t/\Q (B3 n) s') ⟨_,_,rfl,h⟩) (fun fin s' ⟨v,e,n,t,e2,q⟩=>⟨n,t,by rw[e,e2],q⟩) (fun _ _ z=>z)
 eqBool:=fun{A E s a b u v Q} hu hv h=>by
  rcases bj hu with⟨i,t,rfl,rfl⟩|⟨x,t,rfl,rfl⟩|⟨rfl,rfl⟩
  ·rcases bj hv with⟨j,u,rfl,rfl⟩|⟨y,u,rfl,rfl⟩|⟨rfl,rfl⟩
   ·exact(bv prog w).eqBool (a:=.inl i) (b:=.inl j) (kW i t) (kW j u) (by rw[show decide ((Sum.inl i:dg)=Sum.inl j)=decide ((some (Sum.inl i):mN)=some (Sum.inl j))from decide_eq_decide.mpr ⟨fun z=>by rw[z],fun z=>by injection z⟩];exact h)
   ·rw[zzr0 (by intro z;injection z with z;cases z)]at h;exact aQ.int_str i t y u _ _ _ _ h
   ·rw[zzr0 (by intro z;cases z)]at h;exact aQ.int_none i t _ _ _ _ h
  ·rcases bj hv with⟨j,u,rfl,rfl⟩|⟨y,u,rfl,rfl⟩|⟨rfl,rfl⟩
   ·rw[zzr0 (by intro z;injection z with z;cases z)]at h;exact aQ.str_int x t j u _ _ _ _ h
   ·exact(bv prog w).eqBool (a:=.inr x) (b:=.inr y) (kU x t) (kU y u) (by rw[show decide ((Sum.inr x:dg)=Sum.inr y)=decide ((some (Sum.inr x):mN)=some (Sum.inr y))from decide_eq_decide.mpr ⟨fun z=>by rw[z],fun z=>by injection z⟩];exact h)
   ·rw[zzr0 (by intro z;cases z)]at h;exact aQ.str_none x t _ _ _ _ h
  ·rcases bj hv with⟨j,u,rfl,rfl⟩|⟨y,u,rfl,rfl⟩|⟨rfl,rfl⟩
   ·rw[zzr0 (by intro z;cases z)]at h;exact aQ.none_int j u _ _ _ _ h
   ·rw[zzr0 (by intro z;cases z)]at h;exact aQ.none_str y u _ _ _ _ h
   ·rw[zzr1 rfl]at h;exact aQ.same _ _ _ _ _ h
 «strs»:=fun k x t v h=>by
  rcases bj h with⟨i,u,rfl,e⟩|⟨y,u,rfl,e⟩|⟨rfl,e⟩
  ·exact nomatch e
  ·injection e with e1 _;subst e1;cases v<;>rfl
  ·exact nomatch e
inductive TK where
 |k (a:mN)
 |t (l:List TK)
mutual
def FO:(x y:TK)->Decidable (x=y)
 |.k a,.k b=>if h:a=b then Decidable.isTrue (by rw[h])else Decidable.isFalse fun e=>h (by injection e)
 |.t l,.t m=>match decTKs l m with
  |Decidable.isTrue h=>Decidable.isTrue (by rw[h])
  |Decidable.isFalse h=>Decidable.isFalse fun e=>h (by injection e)
 |.k _,.t _=>Decidable.isFalse nofun
 |.t _,.k _=>Decidable.isFalse nofun
def decTKs:(x y:List TK)->Decidable (x=y)
 |[],[]=>Decidable.isTrue rfl
 |[],_::_=>Decidable.isFalse nofun
 |_::_,[]=>Decidable.isFalse nofun
 |a::l,b::m=>match FO a b with
  |Decidable.isTrue h=>match decTKs l m with
   |Decidable.isTrue h'=>Decidable.isTrue (by rw[h,h'])
   |Decidable.isFalse h'=>Decidable.isFalse fun e=>h' (by injection e)
  |Decidable.isFalse h=>Decidable.isFalse fun e=>h (by injection e)
end
instance:DecidableEq TK:=FO
mutual
def TK.depth:TK->Nat
 |.k _=>0
 |.t l=>TK.depths l+1
def TK.depths:List TK->Nat
 |[]=>0
 |a::r=>max (TK.depth a) (TK.depths r)
end
mutual
def TK.hash(w:World):TK->Int
 |.k a=>FH w a
 |.t l=>B3 (xW (TK.hashs w l))
def TK.hashs(w:World):List TK->List Int
 |[]=>[]
 |a::r=>TK.hash w a::TK.hashs w r
end
mutual
def TK.draws:TK->Nat
 |.k _=>1
 |.t l=>TK.drawss l+1
def TK.drawss:List TK->Nat
 |[]=>0
 |a::r=>TK.draws a+TK.drawss r
end
mutual
def lF(h:Heap):TK->Value->Prop
 |.k a,v=>ic a v=true
 |.t l,v=>∃a o items n,v=.ref a/\h.get? a=some o/\o.cls=.type "tuple"/\o.data=.seq items n/\TAts h l items.toList
def TAts(h:Heap):List TK->List Value->Prop
 |[],vs=>vs=[]
 |k::r,vs=>∃v us,vs=v::us/\lF h k v/\TAts h r us
end
theorem lF.inj{h:Heap}:∀(d:Nat) {x y:TK}{v:Value},x.depth<=d->lF h x v->lF h y v->x=y:=by
 have w:∀(d:Nat) (s:∀{x y:TK}{v:Value},x.depth<=d->lF h x v->lF h y v->x=y) (xs i:List TK) (m:Zf),TK.depths xs<=d->TAts h xs m->TAts h i m->xs=i:=by
  intro d s xs
  induction xs with
  |nil =>
   intro i m _ hx f;have z:m=[]:=hx;subst z;cases i with
   |nil=>rfl
   |cons y i=>obtain⟨_,_,e,_⟩:=f;cases e
  |cons x xs A =>
   intro i m p hx f;obtain⟨v,L,rfl,B,C⟩:=hx;cases i with
   |nil=>have D:v::L=[]:=f;cases D
   |cons y i =>
    obtain⟨v',N,e,E,G⟩:=f;cases e;have O:max x.depth (TK.depths xs)<=d:=p;rw[s (by omega) B E,A i L (by omega) C G]
 have g:∀(a:mN) (l:List TK) (v:Value),lF h (.k a) v->lF h (.t l) v->False:=by
  intro a l v q H;obtain⟨b,o,items,n,rfl,_⟩:=H;rcases bj (show ic a (.ref b)=true from q)with⟨_,_,_,e⟩|⟨_,_,_,e⟩|⟨_,e⟩<;>cases e
 have M:∀(a b:mN) (v:Value),ic a v=true->ic b v=true->a=b:=fun a b v q H=>si q H;intro d
 induction d with
 |zero =>
  intro x y v p hx f;cases x with
  |t l=>exact absurd p (by show ¬(TK.depths l+1<=0);omega)
  |k a =>
   cases y with
   |k b=>rw[M a b v hx f]
   |t l=>exact(g a l v hx f).elim
 |succ d s =>
  intro x y v p hx f;cases x with
  |k a =>
   cases y with
   |k b=>rw[M a b v hx f]
   |t l=>exact(g a l v hx f).elim
  |t l =>
   cases y with
   |k b=>exact(g b l v f hx).elim
   |t Q =>
    obtain⟨a,o,items,n,rfl,T,hc,I,hi⟩:=hx;obtain⟨a',o',u,n',e,r,U,j,J⟩:=f;cases e;rw[T]at r;cases r;rw[I]at j;injection j with Y _;subst Y;rw[w d (fun q=>s q) l Q items.toList (by have:TK.depths l+1<=d+1:=p;omega) hi J]
theorem lF.mono{h g:Heap}(k:∀a o items n,h.get? a=some o->o.cls=.type "tuple"->o.data=.seq items n->g.get? a=some o):∀(d:Nat) {x:TK}{v:Value},x.depth<=d->lF h x v->lF g x v:=by
 have m:∀(d:Nat) (i:∀{x:TK}{v:Value},x.depth<=d->lF h x v->lF g x v) (xs:List TK) (j:Zf),TK.depths xs<=d->TAts h xs j->TAts g xs j:=by
  intro d i xs
  induction xs with
  |nil=>intro j _ hx;exact hx
  |cons x xs p =>
   intro j e hx;obtain⟨v,s,rfl,q,r⟩:=hx;have w:max x.depth (TK.depths xs)<=d:=e;exact⟨v,s,rfl,i (by omega) q,p s (by omega) r⟩
 intro d
 induction d with
 |zero =>
  intro x v e hx;cases x with
  |t l=>exact absurd e (by show ¬(TK.depths l+1<=0);omega)
  |k a=>exact hx
 |succ d i =>
  intro x v e hx;cases x with
  |k a=>exact hx
  |t l =>
   obtain⟨a,o,items,n,rfl,y,u,f,hi⟩:=hx;exact⟨a,o,items,n,rfl,k a o items n y u f,u,f,m d (fun z=>i z) l _ (by have:TK.depths l+1<=d+1:=e;omega) hi⟩
section
variable{prog:aU}{w:World}
theorem Eh:∀(d:Nat) {A:Around}{E:Zc}{s:Shared}{k:TK}{v:Value}{Q:Int->Shared->Prop},k.depth<=d->A.units+d<cLine->lF s.heap k v->Q (k.hash w) { s with toks:=s.toks+k.draws } ->
  wpAny (model prog w) A (pyHash v) Q E s:=by
 intro d
 induction d with
 |zero =>
  intro A E s k v Q C hu u h;cases k with
  |t l=>exact absurd C (by show ¬(TK.depths l+1<=0);omega)
  |k a=>exact(w_ prog w).pyHash (k:=a) u h
 |succ d ih =>
  intro A E s k v Q C hu u h;cases k with
  |k a=>exact(w_ prog w).pyHash (k:=a) u h
  |t l =>
   obtain⟨a,o,items,n,rfl,U,hc,D,hi⟩:=u;have y:s.TypeIs (.ref a) "tuple":=⟨o,U,hc⟩;have G:TK.depths l<=d:=by have:TK.depths l+1<=d+1:=C;omega
   unfold pyHash
   first|unfold pyHashByItsType|skip
   first|refine ac (wpAny_cRoomFor_or (.inr (by omega)) ?_)|skip
   refine ac (A2 y F.slot_tuple_hash.lookup ?_);show wpAny _ _ (if(some (wr "tuple.__hash__")==some Value.none)=true then _ else _) Q E s
   rw[if_neg (by rw[beq_builtin_none];exact fX)];refine ac (A2 y F.slot_tuple_hash.lookup ?_);show wpAny _ _ (callSpecialIfBoundUnlessNone? (.ref a) "__hash__" _ >>= _) Q E s;refine ac (wpAny_callSpecialIfBoundUnlessNone?_slot y F.slot_tuple_hash (lm F.slot_tuple_hash y F.entry_tuple_hash ?_ (F.args_tuple_hash_1 _)));show wpAny _ _ (aS.Tuple.tupleItemsOf (.ref a) >>= _) _ _ s;refine ac (wpAny_tupleItemsOf U D ?_);refine ac ?_;rw[<-D2];refine wpAny_forIn_list _
    (fun g (b:Array Int) H=>∃done left,l=done++left/\TAts s.heap left g/\b.toList=TK.hashs w done/\H={ s with toks:=s.toks+TK.drawss done })
    _ ?_ ?_ _ _ ⟨[],l,rfl,hi,rfl,rfl⟩
   ·rintro x g b H ⟨done,left,e,z,j,rfl⟩;cases left with
    |nil=>have I:x::g=[]:=z;cases I
    |cons f left =>
     obtain⟨x',J,L,h1,Y⟩:=z;cases L;have M:f.depth<=d:=by
      have gen:∀(p:List TK),TK.depths (p++f::left)<=d->f.depth<=d:=by
       intro p
       induction p with
       |nil=>intro N;have O:max f.depth (TK.depths left)<=d:=N;omega
       |cons q p i=>intro N;have O:max q.depth (TK.depths (p++f::left))<=d:=N;exact i (by omega)
      exact gen done (by rw[<-e];exact G)
     have T:TK.hashs w (done++[f])=TK.hashs w done++[f.hash w]:=by
      clear e j
      induction done with
      |nil=>rfl
      |cons q p i=>show _::TK.hashs w (p++[f])=_;rw[i];rfl
     have m:TK.drawss (done++[f])=TK.drawss done+f.draws:=by
      clear e j T
      induction done with
      |nil=>show f.draws+0=0+f.draws;omega
      |cons q p i=>show q.draws+TK.drawss (p++[f])=q.draws+TK.drawss p+f.draws;rw[i];omega
     refine ac (ih (k:=f) M (by show A.units+1+d<cLine;omega) h1 ?_)
     first
      |exact ak ⟨done++[f],left,by rw[e];simp,Y,by rw[T];simp[j],by rw[m];simp[tR]⟩
      |exact ac (ak (ak ⟨done++[f],left,by rw[e];simp,Y,by rw[T];simp[j],by rw[m];simp[tR]⟩))
   ·rintro b H ⟨done,left,e,z,j,rfl⟩;cases left with
    |cons f left=>obtain⟨_,_,L,_⟩:=z;cases L
    |nil =>
     rw[cp]at e;subst e;show wpAny _ _ (retInt (xW b.toList)) _ _ _;rw[j];refine wpAny_ret_mkInt ?_;have r:Q (B3 (xW (TK.hashs w l))) { s with toks:=s.toks+(TK.drawss l+1) }:=h;show wpAny _ _ (if(decide (-(2:Int) ^ 63<=xW (TK.hashs w l)) && decide (xW (TK.hashs w l)<2 ^ 63))=true then _ else _) Q E _
     unfold B3 at r;by_cases B:(decide (-(2:Int) ^ 63<=xW (TK.hashs w l)) && decide (xW (TK.hashs w l)<2 ^ 63))=true
     ·rw[if_pos B];rw[if_pos B]at r;exact ak (by simpa[tR]using r)
     ·rw[if_neg B];rw[if_neg B]at r;exact ac (mZ (ak (by simpa[tR]using r)))
theorem A8(d:Nat)(ih:∀{A:Around}{E:Zc}{s:Shared}{x y:TK}{u v:Value}{Q:Bool->Shared->Prop},x.depth<=d->y.depth<=d->A.units+d<cLine->lF s.heap x u->lF s.heap y v->Q (decide (x=y)) s->wpAny (model prog w) A (eqBool u v) Q E s)
  {A:Around}{E:Zc}{s:Shared}{x y:List TK}{a b:Addr}{P:Fin->Shared->Prop}{oa J:Obj}{xs q:Array Value}{na nb:Nat}(hx:TK.depths x<=d) (hy:TK.depths y<=d) (hu:A.units+d<cLine)
  (M:s.heap.get? a=some oa) (N:oa.data=.seq xs na) (O:TAts s.heap x xs.toList) (z:s.heap.get? b=some J) (T:J.cls=.type "tuple") (U:J.data=.seq q nb) (Y:TAts s.heap y q.toList)
  (h:P (.done (.ret (.bool (decide (x=y))))) s):wpAny (model prog w) A (aS.«tuple.__eq__» ⟨[.ref a,.ref b],[]⟩) P E s:=by
 have ab:s.TypeIs (.ref b) "tuple":=⟨J,z,T⟩;show wpAny _ _ (z5 (.ref b) (.type "tuple") >>= _) _ _ s;refine ac (tQ ab isSubtype_tuple_tuple ?_);simp only[zZ,g_,if_false];refine ac (wpAny_tupleItemsOf M N ?_);refine ac (wpAny_tupleItemsOf z U ?_);refine ac ?_;refine wpAny_forIn_list _
  (fun l r L=>r.1=none/\L=s/\∃n m xs' f,l=List.zip xs' f/\TAts s.heap n xs'/\TAts s.heap m f/\TK.depths n<=d/\TK.depths m<=d/\decide (n=m)=decide (x=y)/\(xs'.length==f.length)=(xs.size==q.size))
  _ ?_ ?_ _ _ ⟨rfl,rfl,x,y,xs.toList,q.toList,rfl,O,Y,hx,hy,rfl,by simp⟩
 ·rintro⟨u,v⟩ l r L ⟨hr,rfl,n,m,xs',f,t,j,g,dx,dy,i,k⟩;cases n with
  |nil =>
   have e:xs'=[]:=j;subst e;simp at t
  |cons k1 o =>
   obtain⟨u',B,rfl,h1,C⟩:=j;cases m with
   |nil =>
    have e:f=[]:=g;subst e;simp at t
   |cons k2 p =>
    obtain⟨v',D,rfl,h2,G⟩:=g;simp only[List.zip_cons_cons,List.cons.injEq,Prod.mk.injEq]at t;obtain⟨⟨rfl,rfl⟩,rfl⟩:=t;have al:max k1.depth (TK.depths o)<=d:=dx;have an:max k2.depth (TK.depths p)<=d:=dy;refine ac (ih (x:=k1) (y:=k2) (by omega) (by omega) hu h1 h2 ?_);by_cases hk:k1=k2
    ·subst hk;rw[zzr1 rfl];simp only[zZ,g_,if_false];refine ak ⟨rfl,rfl,o,p,B,D,rfl,C,G,by omega,by omega,?_,by simpa using k⟩;rw[<-i];by_cases H:o=p
     ·simp[H]
     ·simp[H]
    ·rw[zzr0 hk];simp only[Bool.not_false,if_true];have hf:decide (x=y)=false:=by rw[<-i];simp[hk]
     rw[hf]at h;exact ac (ak (ak (ak h)))
 ·rintro⟨r1,r2⟩ L ⟨hr,rfl,n,m,xs',f,t,j,g,dx,dy,i,k⟩;simp only at hr;subst hr;refine ak ?_;have I:(xs.size==q.size)=decide (x=y):=by
   rw[<-i,<-k];cases n with
   |nil =>
    have e:xs'=[]:=j;subst e;cases m with
    |nil=>have e:f=[]:=g;subst e;simp
    |cons _ _=>obtain⟨_,_,rfl,_⟩:=g;simp
   |cons _ _ =>
    obtain⟨_,_,rfl,_⟩:=j;cases m with
    |nil=>have e:f=[]:=g;subst e;simp
    |cons _ _=>obtain⟨_,_,rfl,_⟩:=g;simp at t
  show P (.done (.ret (.bool (xs.size==q.size)))) L;rw[I];exact h
theorem G_:∀(d:Nat) {A:Around}{E:Zc}{s:Shared}{x y:TK}{u v:Value}{Q:Bool->Shared->Prop},x.depth<=d->y.depth<=d->A.units+d<cLine->lF s.heap x u->lF s.heap y v->Q (decide (x=y)) s ->
  wpAny (model prog w) A (eqBool u v) Q E s:=by
 have g:∀{A:Around}{E:Zc}{s:Shared}{a:mN}{l:List TK}{u v:Value}{Q:Bool->Shared->Prop},A.units<cLine->lF s.heap (.k a) u->lF s.heap (.t l) v->Q false s->wpAny (model prog w) A (eqBool u v) Q E s:=by
  intro A E s a l u v Q j hx f h;obtain⟨b,o,items,n,rfl,L,M,q,hi⟩:=f;have r:s.heap.IsTuple b items:=⟨o,L,M,n,q⟩;rcases bj (show ic a u=true from hx)with⟨i,t,rfl,rfl⟩|⟨i,t,rfl,rfl⟩|⟨rfl,rfl⟩
  ·exact aQ.int_tuple i t r j prog w E Q h
  ·exact aQ.str_tuple i t r j prog w E Q h
  ·exact aQ.none_tuple r j prog w E Q h
 have p:∀{A:Around}{E:Zc}{s:Shared}{a:mN}{l:List TK}{u v:Value}{Q:Bool->Shared->Prop},A.units<cLine->lF s.heap (.t l) u->lF s.heap (.k a) v->Q false s->wpAny (model prog w) A (eqBool u v) Q E s:=by
  intro A E s a l u v Q j hx f h;obtain⟨b,o,items,n,rfl,L,M,q,hi⟩:=hx;have r:s.heap.IsTuple b items:=⟨o,L,M,n,q⟩;rcases bj (show ic a v=true from f)with⟨i,t,rfl,rfl⟩|⟨i,t,rfl,rfl⟩|⟨rfl,rfl⟩
  ·exact aQ.tuple_int i t r j prog w E Q h
  ·exact aQ.tuple_str i t r j prog w E Q h
  ·exact aQ.tuple_none r j prog w E Q h
 have leaves:∀{A:Around}{E:Zc}{s:Shared}{a b:mN}{u v:Value}{Q:Bool->Shared->Prop},lF s.heap (.k a) u->lF s.heap (.k b) v->Q (decide (TK.k a=TK.k b)) s->wpAny (model prog w) A (eqBool u v) Q E s:=by
  intro A E s a b u v Q hx f h;refine(w_ prog w).eqBool (a:=a) (b:=b) hx f ?_;by_cases e:a=b
  ·subst e;simpa using h
  ·have:¬(TK.k a=TK.k b):=fun z=>e (by injection z);rw[zzr0 this]at h;rw[zzr0 e];exact h
 intro d
 induction d with
 |zero =>
  intro A E s x y u v Q B C j hx f h;cases x with
  |t l=>exact absurd B (by show ¬(TK.depths l+1<=0);omega)
  |k a =>
   cases y with
   |t l=>exact absurd C (by show ¬(TK.depths l+1<=0);omega)
   |k b=>exact leaves hx f h
 |succ d ih =>
  intro A E s x y u v Q B C j hx f h;cases x with
  |k a =>
   cases y with
   |k b=>exact leaves hx f h
   |t l =>
    rw[zzr0 (by intro z;cases z)]at h;exact g (by omega) hx f h
  |t l =>
   cases y with
   |k b =>
    rw[zzr0 (by intro z;cases z)]at h;exact p (by omega) hx f h
   |t m =>
    have hl:TK.depths l<=d:=by have:TK.depths l+1<=d+1:=B;omega
    have hm:TK.depths m<=d:=by have:TK.depths m+1<=d+1:=C;omega
    have N:=hx;have O:=f;obtain⟨a,oa,xs,na,rfl,G,T,U,Y⟩:=hx;obtain⟨b,ob,ys,nb,rfl,H,I,ab,al⟩:=f;have J:s.TypeIs (.ref a) "tuple":=⟨oa,G,T⟩;have an:s.TypeIs (.ref b) "tuple":=⟨ob,H,I⟩;have ap:decide (TK.t l=TK.t m)=decide (l=m):=by
     by_cases e:l=m
     ·subst e;simp
     ·have:¬(TK.t l=TK.t m):=fun z=>e (by injection z);rw[zzr0 this,zzr0 e]
    unfold eqBool
    try with_reducible refine fz ?_
    show wpAny _ _ (if(Value.ref a==Value.ref b)=true then _ else _) Q E s
    by_cases D:(Value.ref a==Value.ref b)=true
    ·rw[if_pos D];have e:a=b:=by have:=eq_of_beq D;injection this
     subst e;have e2:TK.t l=TK.t m:=lF.inj _ (az _) N O;rw[zzr1 e2]at h;exact ac (mZ (ak h))
    ·rw[if_neg D];rw[ap]at h;exact ac (wpAny_richCompare_same_room (op:=.Eq) J an F.slot_tuple_eq
      (lm F.slot_tuple_eq J F.entry_tuple_eq (A8 d (fun h1 h2 h3 h4 h5 h6=>ih h1 h2 h3 h4 h5 h6) hl hm (by show A.units+1+d<cLine;omega) G U Y H I ab al ⟨_,rfl,(fun e=>nomatch e),qP h⟩) (F.args_tuple_eq_2 _ _)) (by omega))
theorem Ce:∀(d:Nat) {A:Around}{E:Zc}{s:Shared}{k:TK}{v:Value}{Q:Bool->Shared->Prop},k.depth<=d->lF s.heap k v->Q true s->wpAny (model prog w) A (eqIsQuiet d v) Q E s:=by
 intro d
 induction d with
 |zero =>
  intro A E s k v Q j i h;cases k with
  |t l=>exact absurd j (by show ¬(TK.depths l+1<=0);omega)
  |k a=>rw[eqIsQuiet_byValue _ ((w_ prog w).byValue a v i)];exact ak h
 |succ d D =>
  intro A E s k v Q j i h;cases k with
  |k a=>rw[eqIsQuiet_byValue _ ((w_ prog w).byValue a v i)];exact ak h
  |t l =>
   have G:TK.depths l<=d:=by have:TK.depths l+1<=d+1:=j;omega
   obtain⟨a,o,items,n,rfl,y,H,m,hi⟩:=i;have z:s.TypeIs (.ref a) "tuple":=⟨o,y,H⟩;unfold eqIsQuiet;refine ac (A2 z F.slot_tuple_eq.lookup ?_);show wpAny _ _ (z5 (.ref a) (.type "tuple") >>= _) _ _ s;refine ac (tQ z isSubtype_tuple_tuple ?_);simp only[zZ,g_,if_false];refine ac (i9 y m ?_);refine ac ?_;show wpAny _ _ (forIn items _ _) _ _ s;rw[<-D2];refine wpAny_forIn_list _ (fun f r p=>r.1=none/\p=s/\∃left,TAts s.heap left f/\TK.depths left<=d) _ ?_ ?_ _ _ ⟨rfl,rfl,l,hi,G⟩
   ·rintro v f r p ⟨q,rfl,left,g,u⟩;cases left with
    |nil=>have e:v::f=[]:=g;cases e
    |cons B left =>
     obtain⟨L,x,e,I,J⟩:=g;cases e;have C:max B.depth (TK.depths left)<=d:=u;refine ac (D (k:=B) (by omega) I ?_);simp only[zZ,g_,if_false];exact ak ⟨rfl,rfl,left,J,by omega⟩
   ·rintro⟨M,N⟩ p ⟨q,rfl,_⟩;simp only at q;subst q;exact ak h
def d6(prog:aU)(w:World):HeapKind prog w TK where
 is:=fun h k a=>lF h k (.ref a)/\k.depth<=8
 hash:=TK.hash w
 draws:=TK.draws
 room:=fun A=>A.units+8<cLine
 inj:=fun hx hy=>lF.inj 8 hx.2 hx.1 hy.1
 keeps:=fun{h h' k a d o es ep} x ho hd hs=>⟨lF.mono (fun b ob items n hb _ hdb=>(hs.2 b fun e=>by
  subst e;rw[ho]at hb;cases hb;rw[hd]at hdb;cases hdb).trans hb) 8 x.2 x.1,x.2⟩
 pyHash:=fun hu hk h=>Eh 8 hk.2 hu hk.1 h
 eqBool:=fun hu hx hy h=>G_ 8 hx.2 hy.2 hu hx.1 hy.1 h
 quiet:=fun hk h=>Ce 8 hk.2 hk.1 h
end
end L2
namespace L2
open PySem PySem.Spec PyProof.Rows
inductive V where
 |non|bl (b:Bool)|int (i:Int)|str (x:Str)|byt (b:Array UInt8)|flt (b:UInt64)|ref (a:Addr)|ty (n:String)
 deriving DecidableEq
def RelV:V->Value->Prop
 |.non,u=>u=Value.none
 |.bl b,u=>u=Value.bool b
 |.int i,u=>∃t,u=Value.int i t
 |.str x,u=>∃t,u=Value.str x t
 |.byt b,u=>∃t,u=Value.bytes b t
 |.flt b,u=>∃t,u=Value.float b t
 |.ref a,u=>u=Value.ref a
 |.ty n,u=>u=Value.type n
abbrev aP:List V->List Value->Prop:=Paired RelV
theorem aP.length{xs:List V}{a:Zf}(r:aP xs a):xs.length=a.length:=Paired.length r
theorem aP.get:∀{xs:List V}{a:Zf}{i:Nat}{x:V},aP xs a->xs[i]?=some x->∃u,a[i]?=some u/\RelV x u
 |_,_,_,_,.nil,e=>by simp at e
 |_,_,0,_,.cons r _,e=>by simp at e;subst e;exact⟨_,rfl,r⟩
 |_,_,i+1,x,.cons _ t,e=>by
  obtain⟨u,d,f⟩:=aP.get (i:=i) (x:=x) t (by simpa using e);exact⟨u,by simpa using d,f⟩
theorem aP.set{x:V}{u:Value}(r:RelV x u):∀{xs:List V}{a:Zf}(i:Nat),aP xs a->aP (xs.set i x) (a.set i u)
 |_,_,_,.nil=>.nil
 |_,_,0,.cons _ t=>.cons r t
 |_,_,i+1,.cons q t=>.cons q (aP.set r i t)
theorem aP.append{xs a:List V}{d e:Zf}(h:aP xs d)(s:aP a e):aP (xs++a) (d++e):=by
 induction h with
 |nil=>exact s
 |cons r _ f=>exact .cons r f
theorem aP.take:∀{xs:List V}{a:Zf}(n:Nat),aP xs a->aP (xs.take n) (a.take n)
 |_,_,0,_=>.nil
 |_,_,_+1,.nil=>.nil
 |_,_,n+1,.cons r t=>.cons r (aP.take n t)
theorem aP.drop:∀{xs:List V}{a:Zf}(n:Nat),aP xs a->aP (xs.drop n) (a.drop n)
 |_,_,0,r=>r
 |_,_,_+1,.nil=>.nil
 |_,_,n+1,.cons _ t=>aP.drop n t
def jI:Option V->Option Value->Prop
 |some v,some u=>RelV v u
 |none,none=>True
 |_,_=>False
def KV{κ:Type}:List (κ×V)->List (κ×Value)->Prop:=Paired fun(p:κ×V) (q:κ×Value)=>p.1=q.1/\RelV p.2 q.2
def kV:dg->V
 |.inl i=>.int i
 |.inr x=>.str x
def FI:mN->V
 |none=>.non
 |some k=>kV k
inductive HO where
 |lst (xs:List V)
 |tup (xs:List V)
 |dK (kvs:List (dg×V))|dT (kvs:List (TK×V))
 |set (S:Int->Bool) (n:Nat)
 |ins (C dx:Addr) (fs:List (Str×V))
 |own (x:Addr)
 |xd (fs:List (Str×V))
 |met (f x:Addr)
 |rng (lo hi:Int)
 |frz (o:Obj) (u:HO)
 |tbl (ps:Array Value)
 |ext (φ:Heap->Prop)
abbrev Hp:=Addr->Option HO
mutual
def fx(H:Hp):TK->V->Prop
 |.k a,v=>v=FI a
 |.t l,v=>∃b xs,v=.ref b/\H b=some (.tup xs)/\TKAts H l xs
def TKAts(H:Hp):List TK->List V->Prop
 |[],vs=>vs=[]
 |k::r,vs=>∃v us,vs=v::us/\fx H k v/\TKAts H r us
end
def jH(K:Za)(H:Hp)(a:Addr)(xs:List V):Prop :=
 H a=some (.tup xs)∨∃(o:Obj) (its:Array Value) (n:Nat),K.lookup a=some o/\o.cls=.type "tuple"/\o.data=.seq its n/\its.size<=aj/\aP xs its.toList
theorem jH.keeps{K:Za}{H d:Hp}{a:Addr}{xs:List V}(h:jH K H a xs)(e:∀b xs,H b=some (.tup xs)->d b=some (.tup xs)):jH K d a xs:=h.imp (e a xs) id
mutual
def pd(K:Za)(H:Hp):TK->V->Prop
 |.k a,v=>v=FI a
 |.t l,v=>∃b xs,v=.ref b/\jH K H b xs/\TKCs K H l xs
def TKCs(K:Za)(H:Hp):List TK->List V->Prop
 |[],vs=>vs=[]
 |k::r,vs=>∃v us,vs=v::us/\pd K H k v/\TKCs K H r us
end
theorem pd.keeps{K:Za}{H f:Hp}(p:∀b xs,H b=some (.tup xs)->f b=some (.tup xs)):∀(d:Nat) {k:TK}{v:V},k.depth<=d->pd K H k v->pd K f k v:=by
 have i:∀(d:Nat) (g:∀{k:TK}{v:V},k.depth<=d->pd K H k v->pd K f k v) (xs:List TK) (h:List V),TK.depths xs<=d->TKCs K H xs h->TKCs K f xs h:=by
  intro d g xs
  induction xs with
  |nil=>intro h _ hx;exact hx
  |cons x xs j =>
   intro h e hx;obtain⟨v,o,rfl,m,n⟩:=hx;have q:max x.depth (TK.depths xs)<=d:=e;exact⟨v,o,rfl,g (by omega) m,j o (by omega) n⟩
 intro d
 induction d with
 |zero =>
  intro k v e hx;cases k with
  |t l=>exact absurd e (by show ¬(TK.depths l+1<=0);omega)
  |k a=>exact hx
 |succ d g =>
  intro k v e hx;cases k with
  |k a=>exact hx
  |t l =>
   obtain⟨b,xs,rfl,r,hi⟩:=hx;exact⟨b,xs,rfl,r.keeps p,i d (fun s=>g s) l xs (by have:TK.depths l+1<=d+1:=e;omega) hi⟩
theorem fx.c{K:Za}{H:Hp}:∀(d:Nat) {k:TK}{v:V},k.depth<=d->fx H k v->pd K H k v:=by
 have h:∀(d:Nat) (f:∀{k:TK}{v:V},k.depth<=d->fx H k v->pd K H k v) (xs:List TK) (g:List V),TK.depths xs<=d->TKAts H xs g->TKCs K H xs g:=by
  intro d f xs
  induction xs with
  |nil=>intro g _ hx;exact hx
  |cons x xs i =>
   intro g e hx;obtain⟨v,n,rfl,j,m⟩:=hx;have o:max x.depth (TK.depths xs)<=d:=e;exact⟨v,n,rfl,f (by omega) j,i n (by omega) m⟩
 intro d
 induction d with
 |zero =>
  intro k v e hx;cases k with
  |t l=>exact absurd e (by show ¬(TK.depths l+1<=0);omega)
  |k a=>exact hx
 |succ d f =>
  intro k v e hx;cases k with
  |k a=>exact hx
  |t l =>
   obtain⟨b,xs,rfl,p,hi⟩:=hx;exact⟨b,xs,rfl,.inl p,h d (fun q=>f q) l xs (by have:TK.depths l+1<=d+1:=e;omega) hi⟩
def upd(H:Hp)(a:Addr)(o:HO):Hp:=fun b=>if b=a then some o else H b
theorem aa{H:Hp}{a:Addr}{o:HO}:upd H a o a=some o:=by unfold upd;rw[if_pos rfl]
theorem ah{H:Hp}{a b:Addr}{o:HO}(h:b≠a):upd H a o b=H b:=by unfold upd;rw[if_neg h]
theorem kM{H:Hp}{a:Addr}{o u:HO}:upd (upd H a o) a u=upd H a u:=by
 funext b;unfold upd;split<;>rfl
theorem C6{H:Hp}{a b:Addr}{o u:HO}(h:H a=some o)(f:H b=some u)(d:o≠u):a≠b:=by
 intro e;subst e;rw[h]at f;exact d (eJ f)
theorem ae{H:Hp}{a b:Addr}{o:HO}(h:H a=some o)(d:H b=none):a≠b:=by
 intro e;subst e;rw[h]at d;cases d
section
variable(P:aU)(w:World)(K:Za)
def aZ(H:Hp)(h:Heap)(a:Addr):HO->Prop
 |.lst xs=>xs.length<=aj/\∃(its:Zf) (n:Nat),aP xs its/\h.get? a=some { cls:=.type "list",data:=.seq its.toArray n }
 |.tup xs=>xs.length<=aj/\∃its:List Value,aP xs its/\IsTup h a its.toArray
 |.dK kvs=>kvs.length<=aj/\(a==d4)=false/\∃vs,KV kvs vs/\h.DictOf (bv P w) a vs
 |.dT kvs=>kvs.length<=aj/\(a==d4)=false/\∃xs:List (TK×Addr×Value),
   Paired (fun(p:TK×V) (q:TK×Addr×Value)=>p.1=q.1/\pd K H p.1 (.ref q.2.1)/\p.1.depth<=8/\RelV p.2 q.2.2) kvs xs /\
   ∃o es ep,h.get? a=some o/\o.ExactDict/\o.data=.dict es ep/\es.toList=xs.map (entryOfKey (d6 P w))/\(xs.map (·.1)).Nodup
 |.set S n=>h.SetOf (intKind P w) a S n
 |.ins C dx fs=>H dx=some (.own a)/\fs.length<=1000/\dx≠a/\h.get? a=some (pD C dx) /\
   ∃mA,h.Ns1 dx mA/\(∀f,jI (fs.lookup f) (mA f))/\PySem.Within mA (fs.map (·.1))
 |.own _=>∃o,h.get? a=some o
 |.xd fs=>∃mA,h.Ns1 a mA/\∀f,jI (fs.lookup f) (mA f)
 |.rng lo hi=>∃t u v,h.get? a=some { cls:=.type "range",data:=.fields #[.int lo t,.int hi u,.int 1 v] }
 |.frz o u=>h.get? a=some o/\aZ H h a u
 |.tbl ps=>h.get? a=some { cls:=.none,data:=.fields ps }
 |.met f x=>h.get? a=some (PySem.W.methodObj (.ref f) (.ref x))
 |.ext φ=>φ h/\(∃o,h.get? a=some o)/\∀h1 h2:Heap,φ h1->(∀o,h1.get? a=some o->h2.get? a=some o)->φ h2
def jp(H:Hp)(h:Heap):Prop:=∀a o,H a=some o->aZ P w K H h a o
end
section
variable{P:aU}{w:World}{K:Za}{H H':Hp}{h h':Heap}{a:Addr}{o:HO}
theorem aZ.lt(x:aZ P w K H h a o):a<h.objs.size:=by
 cases o with
 |lst xs=>obtain⟨_,_,_,_,e⟩:=x;exact ar e
 |tup xs=>obtain⟨_,_,_,p⟩:=x;exact p.lt
 |dK d=>obtain⟨_,_,_,_,o,_,_,e,_⟩:=x;exact ar e
 |dT d=>obtain⟨_,_,_,_,o,_,_,e,_⟩:=x;exact ar e
 |set S n=>obtain⟨o,_,_,_,e,_⟩:=x;exact ar e
 |ins C g fs=>obtain⟨_,_,_,e,_⟩:=x;exact ar e
 |own y=>obtain⟨_,e⟩:=x;exact ar e
 |xd fs=>obtain⟨_,⟨_,_,_,e,_⟩,_⟩:=x;exact ar e
 |rng lo hi=>obtain⟨_,_,_,e⟩:=x;exact ar e
 |frz i u=>obtain⟨e,_⟩:=x;exact ar e
 |tbl j=>exact ar (show h.get? a=some _ from x)
 |met f y=>exact ar (show h.get? a=some _ from x)
 |ext φ=>obtain⟨_,⟨_,e⟩,_⟩:=x;exact ar e
theorem Paired.mapP{α β:Type}{F G:α->β->Prop}{d:List α}{e:List β}(h:Paired F d e)(f:∀a b,F a b->G a b):Paired G d e:=by
 induction h with
 |nil=>exact .nil
 |cons r _ g=>exact .cons (f _ _ r) g
theorem aZ.stay(x:aZ P w K H h a o)(k:∀b u,(b=a∨H b=some (.own a))->h.get? b=some u->h'.get? b=some u)
  (D:∀b,H b=some (.own a)->H' b=some (.own a)) (E:∀b xs,H b=some (.tup xs)->H' b=some (.tup xs)):aZ P w K H' h' a o:=by
 induction o with
 |lst xs=>obtain⟨z,l,n,r,e⟩:=x;exact⟨z,l,n,r,k _ _ (.inl rfl) e⟩
 |tup xs=>obtain⟨z,l,r,g,e,c⟩:=x;exact⟨z,l,r,g,k _ _ (.inl rfl) e,c⟩
 |dK m=>obtain⟨z,y,G,r,g,i,j,e,c⟩:=x;exact⟨z,y,G,r,g,i,j,k _ _ (.inl rfl) e,c⟩
 |dT m =>
  obtain⟨z,y,xs,r,g,i,j,e,c⟩:=x;exact⟨z,y,xs,Paired.mapP r fun p q z=>⟨z.1,pd.keeps E 8 z.2.2.1 z.2.1,z.2.2⟩,g,i,j,k _ _ (.inl rfl) e,c⟩
 |set S n=>obtain⟨g,i,j,t,e,c⟩:=x;exact⟨g,i,j,t,k _ _ (.inl rfl) e,c⟩
 |ins C L fs =>
  obtain⟨d,z,ne,e,s,⟨A,i,j,I,c⟩,r⟩:=x;exact⟨D _ d,z,ne,k _ _ (.inl rfl) e,s,⟨A,i,j,k _ _ (.inr d) I,c⟩,r⟩
 |own y=>obtain⟨g,e⟩:=x;exact⟨g,k _ _ (.inl rfl) e⟩
 |xd fs=>obtain⟨s,⟨A,i,j,e,c⟩,r⟩:=x;exact⟨s,⟨A,i,j,k _ _ (.inl rfl) e,c⟩,r⟩
 |rng lo hi=>obtain⟨t,u,v,e⟩:=x;exact⟨t,u,v,k _ _ (.inl rfl) e⟩
 |frz g u J=>obtain⟨e,q⟩:=x;exact⟨k _ _ (.inl rfl) e,J q⟩
 |tbl B =>
  have e:h.get? a=some { cls:=.none,data:=.fields B }:=x;show h'.get? a=some { cls:=.none,data:=.fields B };exact k a _ (.inl rfl) e
 |met f y =>
  have e:h.get? a=some (PySem.W.methodObj (.ref f) (.ref y)):=x;show h'.get? a=some (PySem.W.methodObj (.ref f) (.ref y));exact k a _ (.inl rfl) e
 |ext φ=>obtain⟨p,⟨o,e⟩,st⟩:=x;exact⟨st _ _ p fun o q=>k _ _ (.inl rfl) q,⟨o,k _ _ (.inl rfl) e⟩,st⟩
theorem jp.lt(x:jp P w K H h)(e:H a=some o):a<h.objs.size:=(x a o e).lt
theorem jp.fresh(x:jp P w K H h)(e:h.objs.size<=a):H a=none:=by
 cases q:H a with
 |none=>rfl
 |some u=>exact absurd (cb (x.lt q) e) (jQ _)
theorem jp.kept(x:jp P w K H h)(k:∀b u,h.get? b=some u->h'.get? b=some u):jp P w K H h':=fun a o e =>
 (x a o e).stay (fun b u _ q=>k b u q) (fun _ q=>q) fun _ _ q=>q
theorem jp.laid(x:jp P w K H h)(k:∀b u,h.get? b=some u->h'.get? b=some u)(g:h.objs.size<=a)(new:aZ P w K (upd H a o) h' a o):jp P w K (upd H a o) h':=fun b u e=>by
 have d:=x.fresh g;by_cases f:b=a
 ·subst f;rw[aa]at e;cases e;exact new
 ·rw[ah f]at e;exact(x b u e).stay (fun c v _ q=>k c v q) (fun c q=>by rw[ah (ae q d)];exact q) fun c xs q=>by rw[ah (ae q d)];exact q
end
def Rd(H:Hp)(a:Addr)(u:HO):Prop:=H a=some u∨∃o,H a=some (.frz o u)
theorem Rd.ok{P:aU}{w:World}{K:Za}{H:Hp}{h:Heap}{a:Addr}{u:HO}(r:Rd H a u)(x:jp P w K H h):aZ P w K H h a u:=by
 rcases r with r|⟨o,r⟩
 ·exact x a u r
 ·obtain⟨_,q⟩:=x a _ r;exact q
def HC:Option HO->Prop
 |some (.lst _)=>True
 |some (.dK _)=>True
 |some (.dT _)=>True
 |some (.set _ _)=>True
 |some (.ins _ _ _)=>True
 |some (.ext _)=>True
 |_=>False
section
variable{P:aU}{w:World}{K:Za}{H:Hp}{h h':Heap}{x e:Addr}{o':HO}
theorem jp.write(ok:jp P w K H h)(g:HC (H x))(l:e=x∨H e=some (.own x))(k:∀b u,b≠e->h.get? b=some u->h'.get? b=some u)(j:∃u,h'.get? e=some u)
  (new:aZ P w K (upd H x o') h' x o'):jp P w K (upd H x o') h':=fun b u q=>by
 have d:∀c y,H c=some (.own y)->c≠x:=fun c y r z=>by subst z;rw[r]at g;exact g
 have f:∀c xs,H c=some (.tup xs)->c≠x:=fun c xs r z=>by subst z;rw[r]at g;exact g
 by_cases i:b=x
 ·subst i;rw[aa]at q;cases q;exact new
 ·rw[ah i]at q;by_cases a:b=e
  ·have m:H b=some (.own x):=by
    rcases l with z|z
    ·exact absurd (a.trans z) i
    ·rw[a];exact z
   rw[q]at m;cases m;obtain⟨v,n⟩:=j;exact⟨v,by rw[a];exact n⟩
  ·refine(ok b u q).stay (fun c v hc r=>k c v ?_ r) (fun c r=>by rw[ah (d c b r)];exact r) fun c xs r=>by rw[ah (f c xs r)];exact r
   rcases hc with rfl|hc
   ·exact a
   ·rintro rfl;rcases l with z|z
    ·exact d c b hc z
    ·rw[hc]at z;cases z;exact i rfl
end
structure Un(fs ex:Ze)(H H':Hp)(h h':Heap):Prop where
 keep:∀b o,h.get? b=some o->H b=none->b∉fs->b∉ex->h'.get? b=some o
 slot:∀b o,h.get? b=some o->H b=none->b∈fs->b∉ex->∃sl,h'.get? b=some { o with slots:=sl }
 free:∀b o,h.get? b=some o->H b=none->b∉ex->H' b=none
 there:∀b o,h.get? b=some o->b∉ex->∃o',h'.get? b=some o'
 tups:∀b xs,H b=some (.tup xs)->H' b=some (.tup xs)
 frzs:∀b o u,H b=some (.frz o u)->H' b=some (.frz o u)
 tbls:∀b ps,H b=some (.tbl ps)->∃more,H' b=some (.tbl (ps++more))
section
variable{fs fs' ex ex':Ze}{H H1 H2:Hp}{h h1 h2 h':Heap}{a x e:Addr}{o:HO}
theorem Un.any(u:Un fs ex H H1 h h1){b:Addr}{ob:Obj}(q:h.get? b=some ob)(n:H b=none)(hx:b∉ex):∃f,h1.get? b=some { ob with slots:=f }:=by
 by_cases d:b∈fs
 ·exact u.slot b ob q n d hx
 ·exact⟨ob.slots,u.keep b ob q n d hx⟩
theorem Un.kept(k:∀b u,h.get? b=some u->h'.get? b=some u):Un fs ex H H h h' :=
 ⟨fun b d q _ _ _=>k b d q,fun b d q _ _ _=>⟨d.slots,k b d q⟩,fun _ _ _ n _=>n,fun b d q _=>⟨d,k b d q⟩,fun _ _ q=>q,fun _ _ _ q=>q,fun _ f q=>⟨#[],by rw[q];simp⟩⟩
theorem Un.refl:Un fs ex H H h h:=Un.kept fun _ _ q=>q
theorem Un.laid(k:∀b u,h.get? b=some u->h'.get? b=some u)(f:h.objs.size<=a)(d:H a=none):Un fs ex H (upd H a o) h h' where
 keep:=fun b u q _ _ _=>k b u q
 slot:=fun b u q _ _ _=>⟨u.slots,k b u q⟩
 free:=fun b u q n _=>by rw[ah (bB (cb (ar q) f))];exact n
 there:=fun b u q _=>⟨u,k b u q⟩
 tups:=fun b xs q=>by rw[ah (ae q d)];exact q
 frzs:=fun b u xs q=>by rw[ah (ae q d)];exact q
 tbls:=fun b g q=>⟨#[],by rw[ah (ae q d),q];simp⟩
theorem Un.write(f:HC (H x))(l:e=x∨H e=some (.own x))(k:∀b u,b≠e->h.get? b=some u->h'.get? b=some u)(g:∃u,h'.get? e=some u):Un fs ex H (upd H x o) h h':=by
 have hx:∀b,H b=none->b≠x:=fun b n z=>by subst z;rw[n]at f;exact f
 have j:∀b,H b=none->b≠e:=fun b n z=>by
  subst z;rcases l with r|r
  ·exact hx b n r
  ·rw[n]at r;cases r
 have i:∀b u,H b=some u->¬HC (some u)->b≠x:=fun b u q m z=>by subst z;rw[q]at f;exact m f
 refine⟨fun b u q n _ _=>k b u (j b n) q,fun b u q n _ _=>⟨u.slots,k b u (j b n) q⟩,fun b u q n _=>by rw[ah (hx b n)];exact n,fun b u q _=>?_,
  fun b xs q=>by rw[ah (i b _ q fun z=>z)];exact q,fun b u xs q=>by rw[ah (i b _ q fun z=>z)];exact q,fun b p q=>⟨#[],by rw[ah (i b _ q fun z=>z),q];simp⟩⟩
 by_cases d:b=e
 ·subst d;exact g
 ·exact⟨u,k b u d q⟩
end
def trk(h:Heap)(H:Hp):List Addr:=(bO h.objs.size).filter fun a=>(H a).isSome
def vS(h:Heap)(H:Hp):Heap:=PySem.W.hideAll h (trk h H)
theorem BF(h:Heap)(H:Hp):(vS h H).objs.size=h.objs.size:=PySem.W.hideAll_size _ _
theorem Dj{h:Heap}{H:Hp}{b:Addr}{o:Obj}(e:h.get? b=some o)(n:H b=none):(vS h H).get? b=some o :=
 PySem.W.hideAll_get _ e fun a=>by
  have q:(H b).isSome=true:=(c8.mp a).2;rw[n]at q;simp at q
theorem EU{h:Heap}{H:Hp}{b:Addr}{o:Obj}(e:(vS h H).get? b=some o):h.get? b=some o/\H b=none:=by
 have a:h.get? b=some o:=PySem.W.of_hideAll (trk h H) e;refine⟨a,?_⟩;cases q:H b with
 |none=>rfl
 |some x =>
  have d:b∈trk h H:=c8.mpr ⟨i8.mpr (ar a),by simp[q]⟩;have z:(vS h H).get? b=none:=PySem.W.hideAll_none (trk h H) d;rw[z]at e;cases e
end L2
namespace L2
open PySem PySem.Spec PyProof.Rows
structure Mod(K:Za)(mg:Str->Option Value)(base:Heap):Prop where
 kin:K.In base
 glob:base.Ns ba mg
 blt:∃mb,base.Ns builtinsNs mb/\∀x:Str,x≠"__name__"->mb x=gZ x
 nolimit:base.NoLimit
structure Cx where
 prog:aU
 w:World
 K:Za
 mg:Str->Option Value
 base:Heap
 A:Around
 N:List Str
 s₀:Shared
 H₀:Hp
 env:Env
 outer:List Env
 stack:List Env
 ex:List Addr
 fn:Str->Bool
 calm:Bool
 pn:List (Addr×Obj)
 xe:Value->Shared->Prop
def sR(l:List Env):List Addr:=l.filterMap (·.frame)
abbrev Cx.fs(X:Cx):List Addr:=sR X.outer
def Vis(sc:Scope)(x:Str):Prop:=sc.names.lookup x=some .local∨sc.names.lookup x=some .cell∨sc.names.lookup x=some .free
def Loc(sc:Scope)(x:Str):Prop:=sc.names.lookup x=some .local∨sc.names.lookup x=some .cell
def Look(env:Env)(h:Heap)(m:Str->Option Value)(x:Str)(u:Value):Prop :=
 (env.kindOf x=some .local/\m x=some u)∨((env.kindOf x=some .cell∨env.kindOf x=some .free)/\∃c,env.cells.lookup x=some c/\h.IsCell c (some u))
structure Cx.Ok(X:Cx):Prop where
 mod:Mod X.K X.mg X.base
 kind:X.env.scope.kind=.function
 glob:X.env.globals=ba
 blt:X.env.builtins=builtinsNs
 above:X.s₀.heap.objs.size<=X.env.locals
 inj:∀x y c,X.env.cells.lookup x=some c->X.env.cells.lookup y=some c->x=y
 has:∀x,(X.env.kindOf x=some .cell∨X.env.kindOf x=some .free)->∃c,X.env.cells.lookup x=some c
 cab:∀x c,X.fn x=true->X.env.cells.lookup x=some c->X.s₀.heap.objs.size<=c
 hd:X.calm=true->X.A.handled=none
 frames:X.A.frames=some X.stack
 stk:X.stack=X.outer∨(X.stack=X.env::X.outer/\X.env.frame=some X.env.locals)
 exf:∀b∈X.ex,b≠X.env.locals/\∀x c,X.env.cells.lookup x=some c->c≠b
 bs:∀b o,X.base.get? b=some o->X.s₀.heap.get? b=some o/\X.H₀ b=none
 bsz:X.base.objs.size<=X.s₀.heap.objs.size
 noex:∀b o,X.base.get? b=some o->b∉X.ex
 exfs:∀b∈X.ex,b∉X.fs
 funs:X.s₀.heap.FunFrames X.base X.outer
 frf:∀b∈X.fs,X.H₀ b=none
structure Inv(X:Cx)(J2:Zd)(σ:List (Option V))(H:Hp)(s:Shared):Prop where
 ok:X.Ok
 os:s.os=X.s₀.os
 bare:lK s.gens
 base:Un X.fs X.ex X.H₀ H X.s₀.heap s.heap
 loc:∃m,s.heap.Ns X.env.locals m/\∀(i:Nat) (x:Str) (v:V),X.N[i]?=some x->σ[i]?=some (some v)->Vis X.env.scope x->∃u,RelV v u/\Look X.env s.heap m x u
 cell:∀x c,X.env.cells.lookup x=some c->∃v,s.heap.IsCell c v
 free:H X.env.locals=none
 freeC:∀x c,X.env.cells.lookup x=some c->H c=none
 pin:∀p∈X.pn++J2,s.heap.get? p.1=some p.2/\H p.1=none/\p.1≠X.env.locals/\p.1∉X.fs/\∀v,p.2.data≠.cell v
 hok:jp X.prog X.w X.K H s.heap
 len:σ.length=X.N.length
section
variable{X:Cx}{J2:Zd}{σ:List (Option V)}{H H':Hp}{s:Shared}{h':Heap}
theorem Cx.Ok.nofr(ok:X.Ok){b:Addr}{o:Obj}(e:X.base.get? b=some o):b∉X.fs:=fun a=>by
 have:=(ok.funs.mem a).1;rw[e]at this;cases this
theorem Inv.bs(I:Inv X J2 σ H s):∀b o,X.base.get? b=some o->s.heap.get? b=some o/\H b=none:=fun b o e =>
 ⟨I.base.keep b o (I.ok.bs b o e).1 (I.ok.bs b o e).2 (I.ok.nofr e) (I.ok.noex b o e),I.base.free b o (I.ok.bs b o e).1 (I.ok.bs b o e).2 (I.ok.noex b o e)⟩
theorem Inv.bk(I:Inv X J2 σ H s):∀b o,X.base.get? b=some o->s.heap.get? b=some o:=fun b o e=>(I.bs b o e).1
theorem Inv.mod(I:Inv X J2 σ H s):Mod X.K X.mg X.base:=I.ok.mod
theorem Inv.kIn(I:Inv X J2 σ H s):X.K.In s.heap:=I.ok.mod.kin.keeps I.bk
theorem Inv.lt(I:Inv X J2 σ H s):X.env.locals<s.heap.objs.size:=let⟨_,a,_⟩:=I.loc;a.lt
theorem Inv.sz(I:Inv X J2 σ H s):X.s₀.heap.objs.size<=s.heap.objs.size:=bN I.ok.above (dB I.lt)
theorem Inv.nofs(I:Inv X J2 σ H s){a:Addr}(h:s.heap.objs.size<=a):a∉X.fs:=fun d=>by
 obtain⟨_,o,e,_⟩:=I.ok.funs.mem d;exact absurd (cb (ar e) (bN I.sz h)) (jQ _)
theorem Inv.cne(I:Inv X J2 σ H s):∀x c,X.env.cells.lookup x=some c->c≠X.env.locals:=fun x c e z=>by
 obtain⟨v,o,f,g⟩:=I.cell x c e;obtain⟨m,⟨h,i,j,a,d,_⟩,_⟩:=I.loc;rw[z,a]at f;cases f;rw[d]at g;cases g
theorem Inv.funs(I:Inv X J2 σ H s):s.heap.FunFrames X.base X.outer:=by
 have all:∀(l:List Env),(∀b∈sR l,b∈X.fs)->X.s₀.heap.FunFrames X.base l->s.heap.FunFrames X.base l:=by
  intro l
  induction l with
  |nil=>intro _ _;trivial
  |cons g r h =>
   intro f i;obtain⟨j,⟨L,o,hf,k,m,n⟩,p⟩:=i;have a:L∈X.fs:=f L (by unfold sR;rw[tP,hf];exact b_);obtain⟨q,e⟩:=I.base.slot L o m (I.ok.frf L a) a fun z=>I.ok.exfs L z a;exact⟨j,⟨L,_,hf,k,e,n⟩,h (fun b d=>f b (by unfold sR;rw[tP,hf];exact cO _ d)) p⟩
 exact all X.outer (fun _ d=>d) I.ok.funs
theorem Inv.stack(I:Inv X J2 σ H s):s.heap.FunFrames X.base X.stack:=by
 rcases I.ok.stk with e|⟨e,hf⟩
 ·rw[e];exact I.funs
 ·rw[e];obtain⟨m,a,_⟩:=I.loc;refine .cons (by rw[I.ok.kind];decide) hf a ?_ I.funs;exact Heap.get?_none_of_le (bN I.ok.bsz I.ok.above)
theorem Inv.stkSub(I:Inv X J2 σ H s):∀b∈sR X.stack,b∈X.env.locals::X.fs:=fun b a=>by
 rcases I.ok.stk with e|⟨e,hf⟩
 ·rw[e]at a;exact cO _ a
 ·rw[e]at a;unfold sR at a;rw[tP,hf]at a;exact a
theorem Inv.stkFree(I:Inv X J2 σ H s):∀b∈sR X.stack,H b=none:=fun b hb=>by
 rcases bA.mp (I.stkSub b hb)with e|hb
 ·rw[e];exact I.free
 ·obtain⟨_,o,a,_⟩:=I.ok.funs.mem hb;exact I.base.free b o a (I.ok.frf b hb) fun z=>I.ok.exfs b z hb
theorem Inv.step{g':Array zY}{t':Nat}{d':Drawn}{ch:Ze}(I:Inv X J2 σ H s)
  (a:∀b∈ch,(b∈X.ex∨X.s₀.heap.objs.size<=b)/\b≠X.env.locals/\(∀x c,X.env.cells.lookup x=some c->c≠b)/\∀p∈X.pn++J2,p.1≠b)
  (keep:∀b o,b≠X.env.locals->b∉X.fs->b∉ch->s.heap.get? b=some o->H b=none->h'.get? b=some o)
  (j:∀b o,b≠X.env.locals->b∈X.fs->b∉ch->s.heap.get? b=some o->H b=none->∃M,h'.get? b=some { o with slots:=M }) (free:∀b o,b∉ch->s.heap.get? b=some o->H b=none->H' b=none)
  (there:∀b o,b∉ch->s.heap.get? b=some o->∃A,h'.get? b=some A)
  (B:∀b xs,H b=some (.tup xs)->H' b=some (.tup xs)) (C:∀b o u,H b=some (.frz o u)->H' b=some (.frz o u)) (D:∀b L,H b=some (.tbl L)->∃E,H' b=some (.tbl (L++E)))
  (ns:∀m,s.heap.Ns X.env.locals m->h'.Ns X.env.locals m) (N:jp X.prog X.w X.K H' h') (hg:lK g') :
  Inv X J2 σ H' { s with heap:=h',gens:=g',drawn:=d',toks:=t' }:=by
 have G:∀b o,X.s₀.heap.get? b=some o->b≠X.env.locals:=fun b o e=>bB (cb (ar e) I.ok.above);have g:∀b o,X.s₀.heap.get? b=some o->b∉X.ex->b∉ch:=fun b o e hx t=>by
  rcases(a b t).1 with z|z
  ·exact hx z
  ·exact absurd (cb (ar e) z) (jQ _)
 have cellK:∀x c,X.env.cells.lookup x=some c->∀v,s.heap.IsCell c v->h'.IsCell c v:=fun x c e v ⟨o,y,O⟩=>by
  have f:c∉ch:=fun z=>(a c z).2.2.1 x c e rfl;by_cases T:c∈X.fs
  ·obtain⟨M,q⟩:=j c o (I.cne x c e) T f y (I.freeC x c e);exact⟨_,q,O⟩
  ·exact⟨o,keep c o (I.cne x c e) T f y (I.freeC x c e),O⟩
 refine⟨I.ok,I.os,hg,⟨fun b o e n t hx=>?_,fun b o e n t hx=>?_,fun b o e n hx=>?_,fun b o e hx=>?_,fun b xs e=>B b xs (I.base.tups b xs e),fun b o xs e=>C b o xs (I.base.frzs b o xs e),fun b L e=>?_⟩,?_,fun x c e=>?_,?_,fun x c e=>?_,fun p U=>?_,N,I.len⟩
 ·exact keep b o (G b o e) t (g b o e hx) (I.base.keep b o e n t hx) (I.base.free b o e n hx)
 ·obtain⟨M,h⟩:=I.base.slot b o e n t hx;obtain⟨Q,J⟩:=j b _ (G b o e) t (g b o e hx) h (I.base.free b o e n hx);exact⟨Q,J⟩
 ·obtain⟨A,h⟩:=I.base.there b o e hx;exact free b A (g b o e hx) h (I.base.free b o e n hx)
 ·obtain⟨A,h⟩:=I.base.there b o e hx;exact there b A (g b o e hx) h
 ·obtain⟨m1,h⟩:=I.base.tbls b L e;obtain⟨m2,J⟩:=D b _ h;exact⟨m1++m2,by rw[J,Array.append_assoc]⟩
 ·obtain⟨m,hn,hl⟩:=I.loc;refine⟨m,ns m hn,fun i x v h J e3=>?_⟩;obtain⟨u,r,l⟩:=hl i x v h J e3;refine⟨u,r,?_⟩;rcases l with l|⟨k,c,e,z⟩
  ·exact .inl l
  ·exact .inr ⟨k,c,e,cellK x c e _ z⟩
 ·obtain⟨v,z⟩:=I.cell x c e;exact⟨v,cellK x c e v z⟩
 ·obtain⟨m,⟨o,_,_,y,_⟩,_⟩:=I.loc;exact free _ o (fun z=>(a _ z).2.1 rfl) y I.free
 ·obtain⟨v,o,y,O⟩:=I.cell x c e;exact free c o (fun z=>(a c z).2.2.1 x c e rfl) y (I.freeC x c e)
 ·obtain⟨e,n,ne,Y,d⟩:=I.pin p U;have f:p.1∉ch:=fun z=>(a p.1 z).2.2.2 p U rfl;exact⟨keep p.1 p.2 ne Y f e n,free p.1 p.2 f e n,ne,Y,d⟩
theorem Inv.un{t':Nat}(I:Inv X J2 σ H s)(u:Un X.fs [] H H' s.heap h')(d:jp X.prog X.w X.K H' h'):Inv X J2 σ H' { s with heap:=h',toks:=t' }:=by
 obtain⟨m,⟨o,p,q,i,r⟩,_⟩:=id I.loc;obtain⟨t,j⟩:=u.any i I.free (by simp);exact I.step (g':=s.gens) (d':=s.drawn) (ch:=[]) (fun _ z=>nomatch z) (fun b o _ f _ e n=>u.keep b o e n f (by simp)) (fun b o _ f _ e n=>u.slot b o e n f (by simp)) (fun b o _ e n=>u.free b o e n (by simp)) (fun b o _ e=>u.there b o e (by simp)) u.tups u.frzs u.tbls (fun v k=>by
  obtain⟨x,g,h,a,l⟩:=k;rw[i]at a;cases a;exact⟨_,g,h,j,l⟩) d I.bare
theorem Inv.call{g':Array zY}{t':Nat}{d':Drawn}{ch:Ze}(I:Inv X J2 σ H s)(u:Un (sR X.stack) ch H H' s.heap h')(g:jp X.prog X.w X.K H' h')(l:lK g')
  (d:∀b∈ch,(b∈X.ex∨X.s₀.heap.objs.size<=b)/\b≠X.env.locals/\(∀x c,X.env.cells.lookup x=some c->c≠b)/\∀p∈X.pn++J2,p.1≠b) :
  Inv X J2 σ H' { s with heap:=h',gens:=g',drawn:=d',toks:=t' }:=by
 obtain⟨m,⟨o,y,A,k,r⟩,_⟩:=id I.loc;obtain⟨B,h⟩:=u.any k I.free fun z=>(d _ z).2.1 rfl;exact I.step (ch:=ch) d (fun b o h q a e n=>u.keep b o e n (fun z=>(bA.mp (I.stkSub b z)).elim h q) a) (fun b o _ _ a e n=>u.any e n a) (fun b o a e n=>u.free b o e n a) (fun b o a e=>u.there b o e a) u.tups u.frzs u.tbls (fun C t=>by
  obtain⟨D,i,j,f,v⟩:=t;rw[k]at f;cases f;exact⟨_,i,j,h,v⟩) g l
theorem Inv.turned{t':Nat}{it:Addr}(I:Inv X J2 σ H s)(k:∀b o,b≠it->s.heap.get? b=some o->h'.get? b=some o)(g:H it=none)(f:it≠X.env.locals)
  (h:it∈X.ex∨X.s₀.heap.objs.size<=it) (i:∀x c,X.env.cells.lookup x=some c->c≠it) (j:∀p∈X.pn++J2,p.1≠it):Inv X J2 σ H { s with heap:=h',toks:=t' }:=by
 have d:∀b u,H b=some u->b≠it:=fun b u e z=>by rw[z,g]at e;cases e
 refine I.step (g':=s.gens) (d':=s.drawn) (ch:=[it]) (fun b l=>?_) (fun b o _ _ a e _=>k b o (fun z=>a (by simp[z])) e) (fun b o _ _ a e _=>⟨o.slots,k b o (fun z=>a (by simp[z])) e⟩) (fun _ _ _ _ n=>n)
  (fun b o a e=>⟨o,k b o (fun z=>a (by simp[z])) e⟩) (fun _ _ e=>e) (fun _ _ _ e=>e) (fun b B e=>⟨#[],by rw[e];simp⟩) (fun m t=>?_) (fun b u e=>?_) I.bare
 ·have e:b=it:=by simpa using l
  subst e;exact⟨h,f,i,j⟩
 ·obtain⟨o,w,y,A,r⟩:=t;exact⟨o,w,y,k _ o (br f) A,r⟩
 ·refine(I.hok b u e).stay (fun c v a q=>k c v ?_ q) (fun _ q=>q) fun _ _ q=>q;rcases a with z|z
  ·rw[z];exact d b u e
  ·exact d c _ z
theorem Inv.tok(I:Inv X J2 σ H s)(t:Nat):Inv X J2 σ H { s with toks:=t }:=I.un (h':=s.heap) (t':=t) Un.refl I.hok
theorem Inv.kept{t':Nat}(I:Inv X J2 σ H s)(k:∀b u,s.heap.get? b=some u->h'.get? b=some u):Inv X J2 σ H { s with heap:=h',toks:=t' }:=I.un (Un.kept k) (I.hok.kept k)
theorem Inv.laid{a:Addr}{o:HO}{t':Nat}(I:Inv X J2 σ H s)(k:∀b u,s.heap.get? b=some u->h'.get? b=some u)(d:s.heap.objs.size<=a)(new:aZ X.prog X.w X.K (upd H a o) h' a o):
  Inv X J2 σ (upd H a o) { s with heap:=h',toks:=t' }:=I.un (Un.laid k d (I.hok.fresh d)) (I.hok.laid k d new)
theorem Inv.write{x e:Addr}{o:HO}{t':Nat}(I:Inv X J2 σ H s)(d:HC (H x))(f:e=x∨H e=some (.own x))(k:∀b u,b≠e->s.heap.get? b=some u->h'.get? b=some u)(a:∃u,h'.get? e=some u)
  (new:aZ X.prog X.w X.K (upd H x o) h' x o):Inv X J2 σ (upd H x o) { s with heap:=h',toks:=t' }:=I.un (Un.write d f k a) (I.hok.write d f k a new)
theorem Inv.weak{σ':List (Option V)}(I:Inv X J2 σ H s)(d:σ'.length=σ.length)(w:∀(i:Nat) v,σ'[i]?=some (some v)->σ[i]?=some (some v)):Inv X J2 σ' H s :=
 ⟨I.ok,I.os,I.bare,I.base,let⟨m,e,a⟩:=I.loc;⟨m,e,fun i x v f g h=>a i x v f (w i v g) h⟩,I.cell,I.free,I.freeC,I.pin,I.hok,d.trans I.len⟩
theorem Inv.pins_of{a:Zd}(I:Inv X J2 σ H s)(h:∀p∈a,s.heap.get? p.1=some p.2/\H p.1=none/\p.1≠X.env.locals/\p.1∉X.fs/\∀v,p.2.data≠.cell v):Inv X a σ H s :=
 ⟨I.ok,I.os,I.bare,I.base,I.loc,I.cell,I.free,I.freeC,fun p d=>(bM.mp d).elim (fun z=>I.pin p (eM _ z)) (h p),I.hok,I.len⟩
theorem r8{N:Zb}(d:N.Nodup){i j:Nat}{x:Str}(a:N[i]?=some x)(b:N[j]?=some x):i=j:=by
 obtain⟨g,e⟩:=gE.mp a;obtain⟨h,f⟩:=gE.mp b;exact(List.getElem_inj d).mp (e.trans f.symm)
theorem ub{M:Model}{A:Around}{E:Zc}{i:Nat}{x:Str}{v:V}{u:Value}{Q:Unit->Shared->Prop}(I:Inv X J2 σ H s)(hN:X.N.Nodup)(hi:X.N[i]?=some x)(hx:Loc X.env.scope x)(r:RelV v u)
  (h:∀s',Inv X J2 (σ.set i (some v)) H s'->(∃a,dP a s.heap s'.heap/\(a=X.env.locals∨X.env.cells.lookup x=some a))->Q () s') (hf:X.fn x=true∨X.env.scope.names.lookup x=some .local:=by first|exact .inl rfl|exact .inr rfl|assumption):wpAny M A (storeName X.env x u) Q E s:=by
 obtain⟨m,hn,hl⟩:=id I.loc;have G:(X.env.scope.kind==.class || (X.env.scope.kind==.module && X.env.locals != X.env.globals))=false:=by rw[I.ok.kind];rfl
 have hiσ:i<σ.length:=by rw[I.len];exact(gE.mp hi).1
 have cne:=I.cne;have tracked:∀{a:Addr}{h':Heap},(∃o,s.heap.get? a=some o/\H a=none)->dP a s.heap h'->jp X.prog X.w X.K H h':=fun{a h'} ha f b ob e=>by
  obtain⟨_,_,l⟩:=ha;refine(I.hok b ob e).stay (fun c U hc q=>(f.2 c ?_).trans q) (fun _ q=>q) fun _ _ q=>q;rintro rfl;rcases hc with rfl|hc
  ·rw[l]at e;cases e
  ·rw[l]at hc;cases hc
 rcases hx with hk|hk
 ·refine wpAny_storeName_local hk hn (fun h' ab f=>?_) G;obtain⟨oL,_,_,al,_⟩:=id hn;refine h _ ⟨I.ok,I.os,I.bare,⟨fun b o e n B hx=>?_,fun b o e n B hx=>?_,I.base.free,fun b o e hx=>?_,I.base.tups,I.base.frzs,I.base.tbls⟩,⟨_,ab,fun j y v' g t e3=>?_⟩,fun y c e=>?_,I.free,I.freeC,fun p hp=>?_,tracked ⟨oL,al,I.free⟩ f,by simpa using I.len⟩ ⟨_,f,.inl rfl⟩
  ·exact(f.2 b (bB (cb (ar e) I.ok.above))).trans (I.base.keep b o e n B hx)
  ·obtain⟨sl,g⟩:=I.base.slot b o e n B hx;exact⟨sl,(f.2 b (bB (cb (ar e) I.ok.above))).trans g⟩
  ·obtain⟨o',g⟩:=I.base.there b o e hx;exact⟨o',(f.2 b (bB (cb (ar e) I.ok.above))).trans g⟩
  ·by_cases C:j=i
   ·subst C;rw[hi]at g;cases g;rw[List.getElem?_set_self hiσ]at t;cases t;exact⟨u,r,.inl ⟨hk,by simp⟩⟩
   ·rw[zX (br C)]at t;obtain⟨u',r',q⟩:=hl j y v' g t e3;refine⟨u',r',?_⟩;rcases q with⟨k,e⟩|⟨k,c,e,z⟩
    ·refine .inl ⟨k,?_⟩;have:y≠x:=fun e=>C (r8 hN g (e▸hi));simp[this,e]
    ·exact .inr ⟨k,c,e,z.sameBut f (cne y c e)⟩
  ·obtain⟨U,z⟩:=I.cell y c e;exact⟨U,z.sameBut f (cne y c e)⟩
  ·obtain⟨e,n,ne,nf,d⟩:=I.pin p hp;exact⟨(f.2 p.1 ne).trans e,n,ne,nf,d⟩
 ·have D:X.fn x=true:=by
   rcases hf with z|z
   ·exact z
   ·rw[z]at hk;cases hk
  obtain⟨c,hc⟩:=I.ok.has x (.inl hk);obtain⟨U,z⟩:=I.cell x c hc;refine wpAny_storeName_cell I.ok.kind hk hc z (fun h' J f=>?_);obtain⟨oc,L,O⟩:=id z;refine h { s with heap:=h' } ⟨I.ok,I.os,I.bare,⟨fun b o e n B hx=>?_,fun b o e n B hx=>?_,I.base.free,fun b o e hx=>?_,I.base.tups,I.base.frzs,I.base.tbls⟩,⟨m,hn.sameBut f (br (cne x c hc)),fun j y v' g t e3=>?_⟩,fun y Y e=>?_,I.free,I.freeC,fun p hp=>?_,tracked ⟨oc,L,I.freeC x c hc⟩ f,by simpa using I.len⟩ ⟨c,f,.inr hc⟩
  ·exact(f.2 b (bB (cb (ar e) (I.ok.cab x c D hc)))).trans (I.base.keep b o e n B hx)
  ·obtain⟨sl,g⟩:=I.base.slot b o e n B hx;exact⟨sl,(f.2 b (bB (cb (ar e) (I.ok.cab x c D hc)))).trans g⟩
  ·obtain⟨o',g⟩:=I.base.there b o e hx;exact⟨o',(f.2 b (bB (cb (ar e) (I.ok.cab x c D hc)))).trans g⟩
  ·by_cases C:j=i
   ·subst C;rw[hi]at g;cases g;rw[List.getElem?_set_self hiσ]at t;cases t;exact⟨u,r,.inr ⟨.inl hk,c,hc,J⟩⟩
   ·rw[zX (br C)]at t;obtain⟨u',r',q⟩:=hl j y v' g t e3;refine⟨u',r',?_⟩;rcases q with q|⟨k,Y,e,z'⟩
    ·exact .inl q
    ·refine .inr ⟨k,Y,e,z'.sameBut f ?_⟩;rintro rfl;exact C (r8 hN g (I.ok.inj _ _ _ e hc▸hi))
  ·by_cases T:Y=c
   ·subst T;exact⟨_,J⟩
   ·obtain⟨w2,z2⟩:=I.cell y Y e;exact⟨w2,z2.sameBut f T⟩
  ·obtain⟨e,n,ne,nf,d⟩:=I.pin p hp;refine⟨(f.2 p.1 ?_).trans e,n,ne,nf,d⟩;intro q;rw[q,L]at e;have q':oc=p.2:=eJ e;exact d U (by rw[<-q'];exact O)
theorem ni{M:Model}{A:Around}{E:Zc}{i:Nat}{x:Str}{v:V}{u:Value}{Q:Unit->Shared->Prop}(I:Inv X J2 σ H s)(d:X.N.Nodup)(hi:X.N[i]?=some x)(hx:Loc X.env.scope x)(r:RelV v u)
  (h:∀a,Inv X J2 (σ.set i (some v)) H a->Q () a) (hf:X.fn x=true∨X.env.scope.names.lookup x=some .local:=by first|exact .inl rfl|exact .inr rfl|assumption):wpAny M A (storeName X.env x u) Q E s :=
 ub I d hi hx r (fun a e _=>h a e) hf
theorem Inv.call'{a:Shared}{ch:Ze}(I:Inv X J2 σ H s)(g:a.os=s.os)(u:Un (sR X.stack) ch H H' s.heap a.heap)(d:jp X.prog X.w X.K H' a.heap)(h:lK a.gens)
  (f:∀b∈ch,(b∈X.ex∨X.s₀.heap.objs.size<=b)/\b≠X.env.locals/\(∀x c,X.env.cells.lookup x=some c->c≠b)/\∀p∈X.pn++J2,p.1≠b):Inv X J2 σ H' a:=by
 obtain⟨h',i,j,k,l⟩:=a;have e:l=s.os:=g;subst e;exact I.call (g':=i) (t':=k) (d':=j) u d h f
end
abbrev XK:=Value->Option Addr->Hp->Prop
abbrev St:=List (Option V)
abbrev VK:=V->Hp->Prop
abbrev TE:=St->Hp->VK->Prop
abbrev TT:=St->Hp->(Bool->Hp->Prop)->Prop
abbrev TA:=St->Hp->(List V->Hp->Prop)->Prop
structure eD where
 nx:St->Hp->Prop
 rt:VK
 bk:St->Hp->Prop:=fun _ _=>False
 ct:St->Hp->Prop:=fun _ _=>False
abbrev bJ(Q:VK):eD:={ nx:=fun _ H=>Q .non H,rt:=Q }
abbrev TS:=eD->St->Hp->Prop
def EP(X:Cx)(J2:Zd)(σ:St)(Q:VK)(u:Value)(s':Shared):Prop:=∃v H',Inv X J2 σ H' s'/\RelV v u/\Q v H'
def TP(X:Cx)(J2:Zd)(σ:St)(Q:Bool->Hp->Prop)(b:Bool)(s':Shared):Prop:=∃H',Inv X J2 σ H' s'/\Q b H'
def AP(X:Cx)(J2:Zd)(σ:St)(Q:List V->Hp->Prop)(us:Zf)(s':Shared):Prop:=∃vs H',Inv X J2 σ H' s'/\aP vs us/\Q vs H'
def SP(X:Cx)(J2:Zd)(D:eD)(f:Flow)(s':Shared):Prop :=
 match f with
 |.next=>∃σ' H',Inv X J2 σ' H' s'/\D.nx σ' H'
 |.brk=>∃σ' H',Inv X J2 σ' H' s'/\D.bk σ' H'
 |.cont=>∃σ' H',Inv X J2 σ' H' s'/\D.ct σ' H'
 |.ret u=>∃v σ' H',Inv X J2 σ' H' s'/\RelV v u/\D.rt v H'
def PE(X:Cx)(e:Expr)(t:TE):Prop :=
 ∀(J2:Zd) (s:Shared) (σ:St) (H:Hp) (Q:VK),Inv X J2 σ H s->t σ H Q->wpAny (model X.prog X.w) X.A (eval e X.env) (EP X J2 σ Q) X.xe s
def PT(X:Cx)(e:Expr)(t:TT):Prop :=
 ∀(J2:Zd) (s:Shared) (σ:St) (H:Hp) (Q:Bool->Hp->Prop),Inv X J2 σ H s->t σ H Q->wpAny (model X.prog X.w) X.A (isTrue e X.env (eval e X.env)) (TP X J2 σ Q) X.xe s
def PW(X:Cx)(e:Expr)(t:TT):Prop :=
 ∀(whole:Sem Value) (J2:Zd) (s:Shared) (σ:St) (H:Hp) (Q:Bool->Hp->Prop),Inv X J2 σ H s->t σ H Q->wpAny (model X.prog X.w) X.A (isTrue e X.env whole) (TP X J2 σ Q) X.xe s
theorem PW.pt{X:Cx}{e:Expr}{t:TT}(h:PW X e t):PT X e t:=h _
def PA(X:Cx)(es:List Expr)(t:TA):Prop :=
 ∀(pos:Pos) (J2:Zd) (s:Shared) (σ:St) (H:Hp) (Q:List V->Hp->Prop),Inv X J2 σ H s->t σ H Q->wpAny (model X.prog X.w) X.A (tO (backTo pos (aq es X.env))) (AP X J2 σ Q) X.xe s
def PS(X:Cx)(st:Stmt)(t:TS):Prop :=
 ∀(J2:Zd) (s:Shared) (σ:St) (H:Hp) (D:eD),Inv X J2 σ H s->t D σ H->wpAny (model X.prog X.w) X.A (exec st X.env) (SP X J2 D) X.xe s
def uE(X:Cx)(st:List Stmt)(t:TS):Prop :=
 ∀(J2:Zd) (s:Shared) (σ:St) (H:Hp) (D:eD),Inv X J2 σ H s->t D σ H->wpAny (model X.prog X.w) X.A (execs st X.env) (SP X J2 D) X.xe s
theorem bY{α:Type}{t:Sem α}{Q d:α->Shared->Prop}{M:Model}{A:Around}{E:Zc}{s:Shared}(h:wpAny M A t Q E s)(e:∀a s,Q a s->d a s):wpAny M A t d E s:=bV h e fun _ _ x=>x
end L2
namespace L2
open PySem PySem.Spec PyProof.Rows
section
variable{X:Cx}
def jT(i:Nat):TE:=fun σ H Q=>∃v,σ[i]?=some (some v)/\Q v H
abbrev V0:TE:=jT 0
abbrev V1:TE:=jT 1
abbrev V2:TE:=jT 2
abbrev V3:TE:=jT 3
abbrev V4:TE:=jT 4
abbrev V5:TE:=jT 5
abbrev V6:TE:=jT 6
abbrev V7:TE:=jT 7
abbrev V8:TE:=jT 8
abbrev V9:TE:=jT 9
abbrev FU:TE:=jT 10
abbrev GI:TE:=jT 11
abbrev Fh:TE:=jT 12
abbrev FT:TE:=jT 13
abbrev GW:TE:=jT 14
abbrev FS:TE:=jT 15
def tC(v:V):TE:=fun _ H Q=>Q v H
theorem Gm{i:Nat}{x:Str}{f:Pos}(n:X.N[i]?=some x)(o:Vis X.env.scope x)(g:(x==("__debug__":Str))=false:=by decide)(j:(x==("__classdict__":Str))=false:=by decide):PE X (.Name x f) (jT i):=by
 intro J2 s σ H Q I h;obtain⟨v,e,h⟩:=h;obtain⟨m,p,q⟩:=I.loc;obtain⟨u,r,l⟩:=q i x v n e o;have d:EP X J2 σ Q u s:=⟨v,H,I,r,h⟩;rcases l with⟨hk,t⟩|⟨hk,c,k,a⟩
 ·exact wpAny_Name (wpAny_loadName_local I.ok.kind hk p t d) g
 ·rcases hk with hk|hk
  ·exact wpAny_Name (wpAny_loadName_cell I.ok.kind hk k a d) g
  ·exact wpAny_Name (wpAny_loadName_free I.ok.kind hk k a d j) g
theorem ai{i j a}:PE X (.Constant (.int i) j a) (tC (.int i)):=fun _ _ _ H _ I h=>wpAny_Constant_int ⟨.int i,H,I.tok _,⟨_,rfl⟩,h⟩
theorem fB{b j a}:PE X (.Constant (.bool b) j a) (tC (.bl b)):=fun _ _ _ H _ I h=>Constant_bool ⟨.bl b,H,I,rfl,h⟩
theorem rV{j a}:PE X (.Constant .none j a) (tC .non):=fun _ _ _ H _ I h=>Constant_none ⟨.non,H,I,rfl,h⟩
theorem cf{x j a}:PE X (.Constant (.str x) j a) (tC (.str x)):=fun _ _ _ H _ I h=>Calls.Constant_str ⟨.str x,H,I.tok _,⟨_,rfl⟩,h⟩
def Gl(X:Cx)(x:Str):Prop:=X.env.kindOf x=some .globalImplicit
theorem iG{E:Zc}{d:Zd}{s:Shared}{σ:St}{H:Hp}{x:Str}{u:Value}{a:Pos}{Q:Zc}(I:Inv X d σ H s)(e:Gl X x)(f:X.mg x=some u)(h:Q u s)
  (g:(x==("__debug__":Str))=false:=by decide):wpAny (model X.prog X.w) X.A (eval (.Name x a) X.env) Q E s :=
 Calls.Name_function_global I.ok.kind e (Calls.loadGlobal_global (by rw[I.ok.glob];exact I.mod.glob.keeps I.bk) f h) g
theorem jE{E:Zc}{d:Zd}{s:Shared}{σ:St}{H:Hp}{x:Str}{u:Value}{a:Pos}{Q:Zc}(I:Inv X d σ H s)(e:Gl X x)(f:X.mg x=none)(g:gZ x=some u)(h:Q u s)
  (i:x≠"__name__":=by decide) (j:(x==("__debug__":Str))=false:=by decide):wpAny (model X.prog X.w) X.A (eval (.Name x a) X.env) Q E s:=by
 obtain⟨m,k,l⟩:=I.mod.blt;exact Calls.Name_function_global I.ok.kind e (Calls.loadGlobal_builtin (by rw[I.ok.glob];exact I.mod.glob.keeps I.bk) f (by rw[I.ok.blt];exact k.keeps I.bk) ((l x i).trans g) h) j
theorem qv{x:Str}{v:V}{u:Value}{a:Pos}(d:Gl X x)(e:X.mg x=some u)(r:RelV v u)(f:(x==("__debug__":Str))=false:=by decide):PE X (.Name x a) (tC v) :=
 fun _ _ _ H _ I h=>iG I d e ⟨v,H,I,r,h⟩ f
theorem kR{x:Str}{v:V}{u:Value}{a:Pos}(d:Gl X x)(e:X.mg x=none)(f:gZ x=some u)(r:RelV v u)(g:x≠"__name__":=by decide)(i:(x==("__debug__":Str))=false:=by decide):PE X (.Name x a) (tC v) :=
 fun _ _ _ H _ I h=>jE I d e f ⟨v,H,I,r,h⟩ g i
variable{a b:Expr}{ta tb:TE}{pos:Pos}
def PC(X:Cx)(op:CmpOp)(a b:Expr)(t:TE):Prop :=
 ∀(J2:Zd) (s:Shared) (σ:St) (H:Hp) (Q:VK),Inv X J2 σ H s->t σ H Q ->
  wpAny (model X.prog X.w) X.A (eval a X.env) (fun v s₁=>wpAny (model X.prog X.w) X.A (eval b X.env) (fun u s₂=>wpAny (model X.prog X.w) X.A (dZ op v u) (EP X J2 σ Q) X.xe s₂) X.xe s₁) X.xe s
theorem w8(b:Expr){d:CmpOp}(h:d≠.In)(e:d≠.NotIn):jP d b=false:=by
 have f:(d==CmpOp.In)=false:=by cases d<;>first|rfl|exact absurd rfl h
 have g:(d==CmpOp.NotIn)=false:=by cases d<;>first|rfl|exact absurd rfl e
 cases b<;>simp[jP,f,g]
def Ci(ta:TE):TE:=fun σ H Q=>ta σ H fun x H1=>Q (.bl (decide (x=.non))) H1
def Fv(ta:TE):TE:=fun σ H Q=>ta σ H fun x H1=>Q (.bl (!decide (x=.non))) H1
theorem RelV.none_iff{x:V}{v:Value}(r:RelV x v):(v==Value.none)=decide (x=.non):=by
 cases x with
 |non=>cases r;rfl
 |bl _=>cases r;rfl
 |int _=>obtain⟨t,rfl⟩:=r;rfl
 |str _=>obtain⟨t,rfl⟩:=r;rfl
 |byt _=>obtain⟨t,rfl⟩:=r;rfl
 |flt _=>obtain⟨t,rfl⟩:=r;rfl
 |ref _=>cases r;rfl
 |ty _=>cases r;rfl
theorem yN{j d}(f:PE X a ta):PC X .Is a (.Constant .none j d) (Ci ta):=by
 intro g s σ H Q I h;refine bY (f g s σ H _ I h) fun v n e=>?_;obtain⟨x,i,k,l,m⟩:=e;exact Constant_none (is_none_gen ⟨.bl _,i,k,by rw[l.none_iff];rfl,m⟩)
theorem ES{j d}(f:PE X a ta):PC X .IsNot a (.Constant .none j d) (Fv ta):=by
 intro g s σ H Q I h;refine bY (f g s σ H _ I h) fun v n e=>?_;obtain⟨x,i,k,l,m⟩:=e;exact Constant_none (isnot_none_gen ⟨.bl _,i,k,by rw[l.none_iff];rfl,m⟩)
def tB(t:TE):TT:=fun σ H Q=>t σ H fun x H1=>∃c,x=.bl c/\Q c H1
theorem yM{d:CmpOp}{t:TE}(h:PC X d a b t)(e:jP d b=false:=by first|exact w8 _ (by decide) (by decide)|rfl):PE X (.Compare a [d] [b] pos) t:=fun f s σ H Q I g=>wpAny_Compare1 (h f s σ H Q I g) e
theorem ia{e:CmpOp}{t:TE}(h:PC X e a b t)(f:jP e b=false:=by first|exact w8 _ (by decide) (by decide)|rfl):PT X (.Compare a [e] [b] pos) (tB t):=by
 intro i s σ H Q I j;refine wpAny_isTrue_Compare1 (bY (h i s σ H _ I j) fun v p f=>bY f fun u r k=>bY k fun c w g=>?_) f;obtain⟨x,l,m,n,o⟩:=g;obtain⟨d,rfl,q⟩:=o;cases n;exact qP ⟨l,m,q⟩
theorem o0{e:Expr}{t:TE}(h:PE X e t)(g:∀whole,isTrue e X.env whole=(do let v <- whole;mY e.pos;i7 [v] (truthy v)):=by intro _;rfl):PT X e (tB t):=by
 intro i s σ H Q I j;refine isTrue_plain (bY (h i s σ H _ I j) fun v o f=>?_) (g _);obtain⟨x,k,l,m,n⟩:=f;obtain⟨d,rfl,q⟩:=n;cases m;exact qP ⟨k,l,q⟩
variable{tA tB':TT}{rest:List Expr}
def DW(t u:TT):TT:=fun σ H Q=>t σ H fun c H1=>if c=true then Q true H1 else u σ H1 Q
def Ba(t:TT):TT:=fun σ H Q=>t σ H fun c H1=>Q (!c) H1
theorem vI(d:PT X a tA):PW X (.BoolOp .Or [a] pos) tA:=by
 intro g f s σ H Q I h;refine isTrue_or (bY (d f s σ H Q I h) fun c i e=>?_);cases c with
 |false=>exact isTrue_or_nil e
 |true=>exact e
theorem ue(j:PT X a tA)(k:PW X (.BoolOp .Or (b::rest) pos) tB'):PW X (.BoolOp .Or (a::b::rest) pos) (DW tA tB'):=by
 intro l e s σ H Q I h;refine isTrue_or (bY (j e s σ H _ I h) fun c m d=>?_);obtain⟨f,g,i⟩:=d;cases c with
 |true=>exact⟨f,g,i⟩
 |false=>exact k l e m σ f Q g i
theorem CL(d:PT X a tA):PT X (.UnaryOp .Not a pos) (Ba tA):=by
 intro e s σ H Q I h;exact isTrue_not (d e s σ H (fun c f=>Q (!c) f) I h)
def iz(ta tb:TE):TE:=fun σ H Q=>ta σ H fun x H1=>∃c,x=.bl c/\if c=true then tb σ H1 Q else Q (.bl false) H1
def Fu(ta:TE):TE:=fun σ H Q=>ta σ H fun x H1=>∃c,x=.bl c/\Q (.bl (!c)) H1
theorem rU{d}{t:TE}(h:PE X a t):PE X (.BoolOp d [a] pos) t:=fun e s σ H Q I f=>BoolOp_one (h e s σ H Q I f)
theorem jB(j:PE X a ta)(k:PE X (.BoolOp .And (b::rest) pos) tb):PE X (.BoolOp .And (a::b::rest) pos) (iz ta tb):=by
 intro f s σ H Q I h;refine BoolOp_and (bY (j f s σ H _ I h) fun v l e=>?_);obtain⟨x,g,i,m,d⟩:=e;obtain⟨c,rfl,d⟩:=d;cases m;refine qP ?_;cases c with
 |true=>exact k f l σ g Q i d
 |false=>exact⟨.bl false,g,i,rfl,d⟩
theorem Gn(f:PE X a ta):PE X (.UnaryOp .Not a pos) (Fu ta):=by
 intro g s σ H Q I h;refine UnaryOp_ (bY (f g s σ H _ I h) fun v l d=>?_);obtain⟨x,i,j,k,e⟩:=d;obtain⟨c,rfl,e⟩:=e;cases k;exact not_of (qP ⟨.bl (!c),i,j,rfl,e⟩)
end
end L2
namespace L2
open PySem PySem.Spec PyProof.Rows
def aH(K:Za)(H:Hp)(a:Addr)(xs:List V):Prop :=
 Rd H a (.lst xs) ∨
  ∃(o:Obj) (its:Array Value) (n:Nat),K.lookup a=some o/\o.cls=.type "list"/\o.dict=none/\o.data=.seq its n/\its.size<=aj/\aP xs its.toList
def cj(K:Za)(H:Hp)(a:Addr)(xs:List V):Prop :=
 Rd H a (.tup xs) ∨
  ∃(o:Obj) (its:Array Value) (n:Nat),K.lookup a=some o/\o.cls=.type "tuple"/\o.data=.seq its n/\its.size<=aj/\aP xs its.toList
def absV:Value->Option V
 |.none=>some .non
 |.bool b=>some (.bl b)
 |.int i _=>some (.int i)
 |.str x _=>some (.str x)
 |.bytes b _=>some (.byt b)
 |.float b _=>some (.flt b)
 |.ref a=>some (.ref a)
 |.type n=>some (.ty n)
 |_=>none
theorem RelV.abs{x:V}{u:Value}(r:RelV x u):absV u=some x:=by
 cases x with
 |non=>cases r;rfl
 |bl _=>cases r;rfl
 |int _=>obtain⟨t,rfl⟩:=r;rfl
 |str _=>obtain⟨t,rfl⟩:=r;rfl
 |byt _=>obtain⟨t,rfl⟩:=r;rfl
 |flt _=>obtain⟨t,rfl⟩:=r;rfl
 |ref _=>cases r;rfl
 |ty _=>cases r;rfl
theorem RelV.inj{x y:V}{u:Value}(r:RelV x u)(q:RelV y u):x=y:=eJ (r.abs.symm.trans q.abs)
theorem aP.inj{xs a:List V}{d:Zf}(h:aP xs d)(e:aP a d):xs=a:=by
 induction h generalizing a with
 |nil=>cases e;rfl
 |cons r _ f =>
  cases e with
  |cons g i=>rw[r.inj g,f i]
section
variable{X:Cx}{J2:Zd}{σ:St}{H:Hp}{s:Shared}{a:Addr}{xs ys:List V}
theorem aH.of{K:Za}(h:H a=some (.lst xs)):aH K H a xs:=.inl (.inl h)
theorem cj.of{K:Za}(h:H a=some (.tup xs)):cj K H a xs:=.inl (.inl h)
theorem Inv.list(I:Inv X J2 σ H s)(h:aH X.K H a xs):∃d:List Value,aP xs d/\PlainL s.heap a d.toArray/\xs.length<=aj:=by
 rcases h with h|⟨o,d,n,f,g,i,j,k,r⟩
 ·obtain⟨z,d,n,r,e⟩:=h.ok I.hok;exact⟨d,r,⟨_,n,e,rfl,rfl,rfl⟩,z⟩
 ·refine⟨d.toList,r,⟨o,n,I.kIn a o f,g,i,by simpa using j⟩,?_⟩;have e:=r.length;simp only[lJ]at e;omega
theorem Inv.tuple(I:Inv X J2 σ H s)(h:cj X.K H a xs):∃d:List Value,aP xs d/\IsTup s.heap a d.toArray/\xs.length<=aj:=by
 rcases h with h|⟨o,d,n,f,g,i,j,r⟩
 ·obtain⟨z,d,r,p⟩:=h.ok I.hok;exact⟨d,r,p,z⟩
 ·refine⟨d.toList,r,⟨o,I.kIn a o f,g,n,by simpa using i⟩,?_⟩;have e:=r.length;simp only[lJ]at e;omega
theorem Inv.list_inj(I:Inv X J2 σ H s)(h:aH X.K H a xs)(k:aH X.K H a ys):xs=ys:=by
 obtain⟨g,r,⟨o,n,e,_,_,d⟩,_⟩:=I.list h;obtain⟨f,l,⟨p,q,i,_,_,j⟩,_⟩:=I.list k;rw[e]at i;cases i;rw[d]at j;injection j with m _;have:g=f:=by simpa using congrArg Array.toList m
 subst this;exact r.inj l
theorem Inv.tuple_inj(I:Inv X J2 σ H s)(h:cj X.K H a xs)(k:cj X.K H a ys):xs=ys:=by
 obtain⟨g,r,⟨o,e,_,n,d⟩,_⟩:=I.tuple h;obtain⟨f,l,⟨p,i,_,q,j⟩,_⟩:=I.tuple k;rw[e]at i;cases i;rw[d]at j;injection j with m _;have:g=f:=by simpa using congrArg Array.toList m
 subst this;exact r.inj l
end
abbrev Cx.wish(X:Cx)(E:Zc):Cx:={ X with xe:=E }
abbrev Cx.nox(X:Cx):Cx:=X.wish fun _ _=>False
theorem Cx.Ok.wish{X:Cx}(ok:X.Ok)(E:Zc):(X.wish E).Ok :=
 ⟨ok.mod,ok.kind,ok.glob,ok.blt,ok.above,ok.inj,ok.has,ok.cab,ok.hd,ok.frames,ok.stk,ok.exf,ok.bs,ok.bsz,ok.noex,ok.exfs,ok.funs,ok.frf⟩
theorem Cx.Ok.unwish{X:Cx}{E:Zc}(ok:(X.wish E).Ok):X.Ok :=
 ⟨ok.mod,ok.kind,ok.glob,ok.blt,ok.above,ok.inj,ok.has,ok.cab,ok.hd,ok.frames,ok.stk,ok.exf,ok.bs,ok.bsz,ok.noex,ok.exfs,ok.funs,ok.frf⟩
section
variable{X:Cx}{J2:Zd}{σ:St}{H:Hp}{s:Shared}{E:Zc}
theorem Inv.wish(I:Inv X J2 σ H s)(E:Zc):Inv (X.wish E) J2 σ H s:=⟨I.ok.wish E,I.os,I.bare,I.base,I.loc,I.cell,I.free,I.freeC,I.pin,I.hok,I.len⟩
theorem Inv.unwish(I:Inv (X.wish E) J2 σ H s):Inv X J2 σ H s:=⟨I.ok.unwish,I.os,I.bare,I.base,I.loc,I.cell,I.free,I.freeC,I.pin,I.hok,I.len⟩
theorem SP.unwish{D:eD}{f:Flow}{d:Shared}(h:SP (X.wish E) J2 D f d):SP X J2 D f d:=by
 cases f with
 |next=>obtain⟨σ',a,I,q⟩:=h;exact⟨σ',a,I.unwish,q⟩
 |brk=>obtain⟨σ',a,I,q⟩:=h;exact⟨σ',a,I.unwish,q⟩
 |cont=>obtain⟨σ',a,I,q⟩:=h;exact⟨σ',a,I.unwish,q⟩
 |ret u=>obtain⟨v,σ',a,I,r,q⟩:=h;exact⟨v,σ',a,I.unwish,r,q⟩
theorem uE.nox{st:List Stmt}{t:TS}(h:uE X.nox st t):uE X st t:=fun J2 s σ H D I a =>
 bV (h J2 s σ H D (I.wish _) a) (fun _ _ q=>q.unwish) fun _ _ z=>bx z
end
section
variable{X:Cx}{st:Stmt}{rest:List Stmt}{t u:TS}{e:Expr}{te:TE}{pos:Pos}
def bD:TS:=fun D σ H=>D.nx σ H
def aw(t u:TS):TS:=fun D σ H=>t { D with nx:=u D } σ H
theorem bu:uE X [] bD:=fun _ _ σ H _ I h=>mW ⟨σ,H,I,h⟩
theorem ag(d:PS X st t)(g:uE X rest u):uE X (st::rest) (aw t u):=by
 intro a s σ H D I h;refine zW (bY (d a s σ H { D with nx:=u D } I h) fun f i q=>?_);cases f with
 |next =>
  obtain⟨σ',j,k,q⟩:=q;exact g a i σ' j D k q
 |ret v=>exact q
 |brk=>exact q
 |cont=>exact q
theorem am(a:PS X st t):uE X [st] t:=by
 intro d s σ H D I h;refine zW (bY (a d s σ H D I h) fun f g q=>?_);cases f with
 |next=>exact mW q
 |ret v=>exact q
 |brk=>exact q
 |cont=>exact q
theorem Inv.quiet{a:Zd}{σ:St}{H:Hp}{s:Shared}(I:Inv X a σ H s):interactive X.env=false:=by simp[interactive,I.ok.kind]
def eZ(te:TE):TS:=fun D σ H=>te σ H fun _ H1=>D.nx σ H1
theorem cK(a:PE X e te)(d:jX e none pos.line X.env=pure false:=by rfl):PS X (.Expr e pos) (eZ te):=by
 intro f s σ H D I h;exact wpAny_Expr_any (bY (a f s σ H _ I h) fun v k ⟨x,g,i,l,j⟩=>⟨σ,g,i,j⟩) I.quiet d
def bc(te:TE):TS:=fun D σ H=>te σ H D.rt
theorem aE(a:PE X e te):PS X (.Return (some e) pos) (bc te):=by
 intro d s σ H D I h;exact wpAny_Return_some (bY (a d s σ H _ I h) fun v k ⟨x,f,g,i,j⟩=>⟨x,σ,f,g,i,j⟩)
def dw(c:TT)(t u:TS):TS:=fun D σ H=>c σ H fun b H1=>if b=true then t D σ H1 else u D σ H1
theorem dk{c:Expr}{a b:List Stmt}{i:TT}(n:PT X c i)(o:uE X a t)(p:uE X b u):PS X (.If c a b pos) (dw i t u):=by
 intro f s σ H D I h;refine wpAny_If (bY (n f s σ H _ I h) fun d j g=>?_);obtain⟨k,l,m⟩:=g;cases d with
 |true=>exact o f j σ k D l m
 |false=>exact p f j σ k D l m
def Cg:TS:=fun _ _ _=>False
theorem CO:PS X st Cg:=fun _ _ _ _ _ _ h=>h.elim
end
abbrev TG:=V->St->Hp->(St->Hp->Prop)->Prop
abbrev GL:=List V->St->Hp->(St->Hp->Prop)->Prop
def PG(X:Cx)(target:Expr)(t:TG):Prop :=
 ∀(J2:Zd) (s:Shared) (σ:St) (H:Hp) (v:V) (u:Value) (Q:St->Hp->Prop),Inv X J2 σ H s->RelV v u->t v σ H Q ->
  wpAny (model X.prog X.w) X.A (assign target X.env u) (fun _ s'=>∃σ' H',Inv X J2 σ' H' s'/\Q σ' H') X.xe s
def HX(X:Cx)(ts:List Expr)(t:GL):Prop :=
 ∀(J2:Zd) (s:Shared) (σ:St) (H:Hp) (vs:List V) (us:Zf) (Q:St->Hp->Prop),Inv X J2 σ H s->aP vs us->t vs σ H Q ->
  wpAny (model X.prog X.w) X.A (assignInOrder ((tN ts X.env).map (·.2)) us) (fun _ s'=>∃σ' H',Inv X J2 σ' H' s'/\Q σ' H') X.xe s
abbrev GK:=V->V->V->Hp->(Hp->Prop)->Prop
def Hz(X:Cx)(t:GK):Prop :=
 ∀(J2:Zd) (s:Shared) (σ:St) (H:Hp) (o i v:V) (ov iv u:Value) (Q:Hp->Prop),Inv X J2 σ H s->RelV o ov->RelV i iv->RelV v u->t o i v H Q ->
  wpAny (model X.prog X.w) X.A (setItem ov iv u) (fun _ s'=>∃H',Inv X J2 σ H' s'/\Q H') X.xe s
section
variable{X:Cx}{pos:Pos}
def cT(i:Nat):TG:=fun v σ H Q=>Q (σ.set i (some v)) H
abbrev U0:TG:=cT 0
abbrev U1:TG:=cT 1
abbrev U2:TG:=cT 2
abbrev U3:TG:=cT 3
abbrev U4:TG:=cT 4
abbrev U5:TG:=cT 5
abbrev U6:TG:=cT 6
abbrev U7:TG:=cT 7
abbrev U8:TG:=cT 8
abbrev U9:TG:=cT 9
abbrev HU:TG:=cT 10
abbrev U11:TG:=cT 11
abbrev Hy:TG:=cT 12
abbrev U13:TG:=cT 13
abbrev U14:TG:=cT 14
abbrev U15:TG:=cT 15
theorem At{i:Nat}{x:Str}(a:X.N.Nodup)(hi:X.N[i]?=some x)(hx:Loc X.env.scope x)(hf:X.fn x=true∨X.env.scope.names.lookup x=some .local:=by first|exact .inl rfl|exact .inr rfl|assumption):PG X (.Name x pos) (cT i):=by
 intro e s σ H v u Q I r h;exact wpAny_assign_Name (ni I a hi hx r (fun f d=>⟨_,H,d,h⟩) hf)
def mB:GL:=fun vs σ H Q=>vs=[]/\Q σ H
def ca(t:TG)(u:GL):GL:=fun vs σ H Q=>∃v r,vs=v::r/\t v σ H fun σ' H'=>u r σ' H' Q
theorem fh:HX X [] mB:=by
 intro a s σ H d f Q I r h;obtain⟨e,h⟩:=h;subst e;cases r;exact assignInOrder_nil ⟨σ,H,I,h⟩
theorem aW{e:Expr}{a:List Expr}{t:TG}{u:GL}(g:PG X e t)(i:HX X a u)
  (j:(tN (e::a) X.env).map (·.2)=assign e X.env::(tN a X.env).map (·.2):=by rfl):HX X (e::a) (ca t u):=by
 intro f s σ H q w Q I r h;obtain⟨v,x,k,h⟩:=h;subst k;cases r with
 |cons r l =>
  rw[j];refine assignInOrder_cons (bY (g f s σ H _ _ _ I r h) fun _ m d=>?_);obtain⟨σ1,n,o,p⟩:=d;exact i f m σ1 n _ _ Q o l p
def mz(K:Za)(n:Nat)(t:GL):TG:=fun v σ H Q=>∃a xs,v=.ref a/\cj K H a xs/\xs.length=n/\t xs σ H Q
theorem ib{d:List Expr}{k:Nat}{t:GL}{n:Nat}(l:X.calm=true)(h:HX X d t)
  (m:(tN d X.env).length=n:=by rfl) (f:(tN d X.env).findIdx? (·.1)=none:=by rfl):PG X (.Tuple d k pos) (mz X.K n t):=by
 intro i s σ H v u Q I r g;obtain⟨a,xs,p,q,w,g⟩:=g;subst p;cases r;obtain⟨x,j,y,B⟩:=I.tuple q;refine assign_Tuple_tuple (I.ok.hd l) y (by simp[m,<-w,j.length]) f fun z hx=>?_;have A:Inv X i σ H { s with heap:=z }:=I.kept (t':=s.toks) fun b o e=>hx b o (bB (ar e)) e;exact h i _ σ H xs _ Q A (by simpa using j) g
def za(to ti:TE)(t:GK):TG:=fun v σ H Q=>to σ H fun o H1=>ti σ H1 fun i H2=>t o i v H2 fun H3=>Q σ H3
theorem rT{o i:Expr}{to g:TE}{t:GK}(j:PE X o to)(hi:PE X i g)(k:Hz X t)
  (l:∀v,assign (.Subscript o i pos) X.env v=(do
   let d <- i7 [v] (eval o X.env)
   let e <- i7 [v,d] (eval i X.env)
   mY pos
   i7 [v,d,e] (setItem d e v)
   release [v,d,e] []):=by intro _;rfl):PG X (.Subscript o i pos) (za to g t):=by
 intro f s σ H v u Q I r h;rw[l];refine ac (fz (bY (j f s σ H _ I h) fun d m a=>?_));obtain⟨x,n,p,q,w⟩:=a;refine ac (fz (bY (hi f m σ n _ p w) fun e z a=>?_));obtain⟨y,A,B,C,D⟩:=a;refine ac (wq (ac (fz (bY (k f z σ A x y v d e u _ B q C r D) fun _ L a=>?_))));obtain⟨E,G,J⟩:=a;exact wpAny_release ⟨σ,E,G,J⟩
def a_(te:TE)(g:TG):TS:=fun D σ H=>te σ H fun x H1=>g x σ H1 D.nx
theorem mr{tg e:Expr}{d:TE}{g:TG}(i:PE X e d)(j:PG X tg g)(k:swapsWithSole [tg] e pos.line X.env=pure false:=by rfl)(l:swappedStores [tg] e X.env=pure none:=by rfl)
  (m:(tN [tg] X.env).map (·.2)=[assign tg X.env]:=by rfl):PS X (.Assign [tg] e pos) (a_ d g):=by
 intro f s σ H D I h;refine wpAny_Assign_stores (bY (i f s σ H _ I h) fun v n a=>?_) k l;obtain⟨x,o,p,r,t⟩:=a;rw[m];exact bY (j f n σ o x v _ p r t) fun _ u q=>q
theorem CN{i:Nat}{x:Str}{e:Expr}{f:TE}{a:Pos}(g:X.N.Nodup)(hi:X.N[i]?=some x)(hx:Loc X.env.scope x)(j:PE X e f)(k:jX e (some (.Name x a)) pos.line X.env=pure false:=by rfl)(hf:X.fn x=true∨X.env.scope.names.lookup x=some .local:=by first|exact .inl rfl|exact .inr rfl|assumption):
  PS X (.Assign [.Name x a] e pos) (a_ f (cT i)):=by
 intro l s σ H D I h;refine wpAny_Assign_Name (bY (j l s σ H _ I h) fun v r d=>?_) k;obtain⟨y,m,n,o,p⟩:=d;exact ni n g hi hx o (fun t q=>⟨_,m,q,p⟩) hf
end
section
variable{X:Cx}{pos:Pos}
def yj(c:TT)(tb:TS):TS:=fun D σ H=>∃W:Nat->St->Hp->Prop,(∃m,W m σ H)/\∀m σ H,W m σ H ->
 c σ H fun b H1=>if b=true then ∃N:St->Hp->Prop,(∀σ' H',N σ' H'->∃m',m'<m/\W m' σ' H')/\tb { D with nx:=N,ct:=N,bk:=D.nx } σ H1 else D.nx σ H1
theorem CM{c:Expr}{a:List Stmt}{p:TT}{q:TS}(r:wo (model X.prog X.w) X.A X.env X.xe)(B:PT X c p)(C:uE X a q):PS X (.While c a [] pos) (yj p q):=by
 intro J2 s σ H D I h;obtain⟨W,⟨E,G⟩,turn⟩:=h;refine wpAny_While (codeAny_whileLoop (fun n J=>∃σ' t,Inv X J2 σ' t J/\W n σ' t) ?_ E ⟨σ,H,I,G⟩);rintro n L ⟨σ1,u,M,O⟩;refine iw r (bY (B J2 L σ1 u _ M (turn n σ1 u O)) fun b Q i=>?_);obtain⟨x,y,e⟩:=i;cases b with
 |true =>
  obtain⟨N,z,e⟩:=e;rw[if_pos rfl];refine iw r (bY (C J2 Q σ1 x _ y e) fun f T g=>?_);cases f with
  |next =>
   obtain⟨σ3,d,j,k⟩:=g;obtain⟨l,m,o⟩:=z σ3 d k;exact⟨l,m,σ3,d,j,o⟩
  |cont =>
   obtain⟨σ3,d,j,k⟩:=g;obtain⟨l,m,o⟩:=z σ3 d k;exact⟨l,m,σ3,d,j,o⟩
  |brk=>exact g
  |ret v=>exact g
 |false =>
  rw[if_neg fX];exact mW ⟨σ1,x,y,e⟩
end
structure It where
 go:Nat->Hp->Prop
 yld:Nat->Hp->V->Hp->Prop
 stop:Nat->Hp->Prop
def kJ(X:Cx)(J2:Zd)(H:Hp)(b:Addr):Prop :=
 H b=none/\b≠X.env.locals/\b∉X.fs/\(b∈X.ex∨X.s₀.heap.objs.size<=b)/\(∀x c,X.env.cells.lookup x=some c->c≠b)/\∀p∈X.pn++J2,p.1≠b
theorem Inv.fpOk{X:Cx}{d:Zd}{σ:St}{H f:Hp}{s:Shared}{b:Addr}(I:Inv X d σ H s)(a:s.heap.objs.size<=b)(g:f b=none):kJ X d f b:=by
 refine⟨g,cI (cb I.lt a),I.nofs a,.inr (bN I.sz a),fun x c e z=>?_,fun p h z=>?_⟩
 ·obtain⟨v,q⟩:=I.cell x c e;exact absurd (cb q.lt (by rw[z];exact a)) (jQ _)
 ·exact absurd (cb (ar (I.pin p h).1) (by rw[z];exact a)) (jQ _)
structure pY(P:aU)(w:World)(K:Za)(tg:Expr)(J:It)(fp:Ze)(it:Addr)(tn:Nat->Heap->Prop):Prop where
 mem:it∈fp
 obj:∀i h,tn i h->∀b∈fp,∃o,h.get? b=some o/\∀v,o.data≠.cell v
 keep:∀i h h',tn i h->(∀b∈fp,∀o,h.get? b=some o->h'.get? b=some o)->tn i h'
 item:∀(X:Cx),X.prog=P->X.w=w->X.K=K->X.calm=true->∀(i:Nat) (J2:Zd) (s:Shared) (σ:St) (H:Hp) (E:Zc),Inv X J2 σ H s->(∀b∈fp,kJ X J2 H b)->tn i s.heap->J.go i H ->
  wpAny (model P w) X.A (pyNext (.ref it)) (fun r s1=>∃u,r=some u /\
   wpAny (model P w) X.A (zV tg (.ref it) u) (fun _ s2=>∃x H',Inv X J2 σ H' s2/\RelV x u/\J.yld i H x H'/\tn (i+1) s2.heap/\∀b∈fp,H' b=none) E s1) E s
 done:∀(X:Cx),X.prog=P->X.w=w->X.K=K->X.calm=true->∀(i:Nat) (J2:Zd) (s:Shared) (σ:St) (H:Hp) (E:Zc),Inv X J2 σ H s->(∀b∈fp,kJ X J2 H b)->tn i s.heap->J.stop i H ->
  wpAny (model P w) X.A (pyNext (.ref it)) (fun r s1=>r=none/\Inv X J2 σ H s1) E s
 self:∀(A:Around) (i:Nat) (s:Shared) (Q:Zc) (E:Zc),tn i s.heap->Q (.ref it) s->wpAny (model P w) A (pyIter (.ref it)) Q E s
abbrev TI:=St->Hp->(It->Hp->Prop)->Prop
def HW(X:Cx)(J2:Zd)(σ:St)(tg:Expr)(R:It->Hp->Prop)(itv:Value)(s2:Shared):Prop :=
 ∃(it:Addr) (fp:Ze) (tn:Nat->Heap->Prop) (J:It) (H':Hp),itv=.ref it/\Inv X J2 σ H' s2/\pY X.prog X.w X.K tg J fp it tn/\tn 0 s2.heap/\(∀b∈fp,kJ X J2 H' b)/\R J H'
def PI(X:Cx)(tg iter:Expr)(wi:TI):Prop :=
 ∀(J2:Zd) (s:Shared) (σ:St) (H:Hp) (R:It->Hp->Prop),Inv X J2 σ H s->wi σ H R ->
  wpAny (model X.prog X.w) X.A (eval iter X.env) (fun v s1=>wpAny (model X.prog X.w) X.A (pyIter v) (HW X J2 σ tg R) X.xe s1) X.xe s
theorem uu{M:Model}{A:Around}{E:Zc}{s:Shared}{d:Expr}{it:Addr}{u:Value}{o:Obj}{n:String}{e:Array Value}{Q:Unit->Shared->Prop}(f:s.heap.get? it=some o)(g:o.cls=.type n)(i:o.data=.fields e)
    (j:["enumerate","zip","dict_itemiterator","dict_reverseitemiterator","odict_iterator","itertools.zip_longest","itertools.pairwise"].contains n=false) (a:Q () s):wpAny M A (zV d (.ref it) u) Q E s:=by
  unfold zV;cases d<;>first
    |exact ak a
    | (cases u <;> first
        |exact ak a
        | (refine ac (wpAny_load f ?_)
           rw[g,i];show wpAny M A (if(["enumerate","zip","dict_itemiterator","dict_reverseitemiterator","odict_iterator","itertools.zip_longest","itertools.pairwise"].contains n && e[0]?==some (rawInt _))=true then _ else _) Q E s
           rw[if_neg (by intro h;rw[j,Bool.false_and]at h;cases h)];exact ak a))
def Fn(K:Za)(a:Addr):It :=
 ⟨fun i H=>∃xs x,aH K H a xs/\xs[i]?=some x,fun i H x H'=>H'=H/\∀xs,aH K H a xs->xs[i]?=some x,fun i H=>∃xs,aH K H a xs/\xs.length<=i⟩
def GO(K:Za)(a:Addr):It :=
 ⟨fun i H=>∃xs x,cj K H a xs/\xs[i]?=some x,fun i H x H'=>H'=H/\∀xs,cj K H a xs->xs[i]?=some x,fun i H=>∃xs,cj K H a xs/\xs.length<=i⟩
def GP(lo:Int)(n:Nat):It:=⟨fun i _=>i<n,fun i H x H'=>H'=H/\x=.int (lo+i),fun i _=>n<=i⟩
theorem tV{P:aU}{w:World}{K:Za}{M:Expr}(a it:Addr):pY P w K M (Fn K a) [it] it (fun i h=>h.IsListIter it a i) where
 mem:=by simp
 obj:=fun i h st b f=>by
  have e:b=it:=by simpa using f
  subst e;obtain⟨o,e,c,d⟩:=st;exact⟨o,e,fun v z=>by rw[d]at z;cases z⟩
 keep:=fun i h j st k=>st.at fun o e=>k it (by simp) o e
 item:=by
  intro X m n q J i L s σ H E I hf st r;subst m n q;obtain⟨xs,x,l,hx⟩:=r;obtain⟨t,y,p,N⟩:=I.list l;obtain⟨u,O,Q⟩:=y.get hx;obtain⟨A,B,T,C,D,G⟩:=hf it (by simp);refine wpAny_pyNext_list_item st p.isList (x:=u) (by simpa using O) fun j g U=>?_;have Y:Inv X L σ H { s with heap:=j }:=I.turned (t':=s.toks) (fun b o f e=>(U.2 b f).trans e) A B C D G;obtain⟨o,e,c,d⟩:=id g;exact⟨u,rfl,uu (s:={ s with heap:=j }) e c d (by decide) ⟨x,H,Y,Q,⟨rfl,fun ys hy=>by rw[I.list_inj hy l];exact hx⟩,g,fun b f=>(hf b f).1⟩⟩
 done:=by
  intro X m n q J i L s σ H E I hf st r;subst m n q;obtain⟨xs,l,hx⟩:=r;obtain⟨t,y,p,N⟩:=I.list l;obtain⟨A,B,T,C,D,G⟩:=hf it (by simp);have hl:=y.length;exact wpAny_pyNext_list_end (I.ok.hd J) st p.isList (by simp;omega) fun j eb=>⟨rfl,I.turned (t':=s.toks) (fun b o f e=>eb b o f e) A B C D G⟩
 self:=fun _ _ _ _ _ st h=>wpAny_pyIter_listiter st h
theorem rD{P:aU}{w:World}{K:Za}{M:Expr}(a it:Addr):pY P w K M (GO K a) [it] it (fun i h=>h.IsTupleIter it a i) where
 mem:=by simp
 obj:=fun i h st b f=>by
  have e:b=it:=by simpa using f
  subst e;obtain⟨o,e,c,d⟩:=st;exact⟨o,e,fun v z=>by rw[d]at z;cases z⟩
 keep:=fun i h l st k=>st.at fun o e=>k it (by simp) o e
 item:=by
  intro X n q r J i L s σ H E I hf st t;subst n q r;obtain⟨xs,x,m,hx⟩:=t;obtain⟨g,y,p,N⟩:=I.tuple m;obtain⟨u,O,Q⟩:=y.get hx;obtain⟨A,B,T,C,D,G⟩:=hf it (by simp);refine wpAny_pyNext_tuple_item st (show s.heap.IsTuple a g.toArray from p) (x:=u) (by simpa using O) fun l j U=>?_;have Y:Inv X L σ H { s with heap:=l }:=I.turned (t':=s.toks) (fun b o f e=>(U.2 b f).trans e) A B C D G;obtain⟨o,e,c,d⟩:=id j;exact⟨u,rfl,uu (s:={ s with heap:=l }) e c d (by decide) ⟨x,H,Y,Q,⟨rfl,fun ys hy=>by rw[I.tuple_inj hy m];exact hx⟩,j,fun b f=>(hf b f).1⟩⟩
 done:=by
  intro X n q r J i L s σ H E I hf st t;subst n q r;obtain⟨xs,m,hx⟩:=t;obtain⟨g,y,p,N⟩:=I.tuple m;obtain⟨A,B,T,C,D,G⟩:=hf it (by simp);have hl:=y.length;exact wpAny_pyNext_tuple_end (I.ok.hd J) st (show s.heap.IsTuple a g.toArray from p) (by simp;omega) fun l eb=>⟨rfl,I.turned (t':=s.toks) (fun b o f e=>eb b o f e) A B C D G⟩
 self:=fun _ _ _ _ _ st h=>wpAny_pyIter_tupleiter st h
theorem x_{P:aU}{w:World}{K:Za}{B:Expr}(it:Addr)(lo:Int)(n:Nat):pY P w K B (GP lo n) [it] it (fun i h=>IsRangeIter h it (lo+(i:Nat) * 1) ((n:Int)-(i:Nat)) 1) where
 mem:=by simp
 obj:=fun i h st b a=>by
  have e:b=it:=by simpa using a
  subst e;exact⟨_,st,fun v z=>by
   have C:Data.fields _=Data.cell v:=z;cases C⟩
 keep:=fun i h f st k=>k it (by simp) _ st
 item:=by
  intro X g j l m i A s σ H E I hf st p;subst g j l;obtain⟨q,r,D,u,x,y⟩:=hf it (by simp);have W:=Walks.range (prog:=X.prog) (w:=X.w) (I.ok.hd m) it lo 1 n;refine W.item i s _ _ p st fun v f tk G d J=>?_;obtain⟨t,rfl⟩:=G;have L:Inv X A σ H { s with heap:=f,toks:=tk }:=I.turned (fun b o a e=>J b o (by simpa using a) e) q r u x y;refine⟨_,rfl,uu (s:={ s with heap:=f,toks:=tk }) (n:="range_iterator") d rfl rfl (by decide) ⟨.int (lo+i),H,L,⟨t,?_⟩,⟨rfl,rfl⟩,d,fun b a=>(hf b a).1⟩⟩;rw[Int.mul_one]
 done:=by
  intro X g j l m i A s σ H E I hf st p;subst g j l;obtain⟨q,r,D,u,x,y⟩:=hf it (by simp);exact wpAny_pyNext_range_end (I.ok.hd m) st (by have:n<=i:=p;omega) fun f M=>⟨rfl,I.turned (t':=s.toks) (fun b o a e=>M b o a e) q r u x y⟩
 self:=fun _ _ _ _ _ st h=>wpAny_pyIter_rangeiter st h
end L2
namespace L2
open PySem PySem.Spec PyProof.Rows
section
variable{X:Cx}{tg:Expr}
def gf(K:Za)(tl:TE):TI:=fun σ H R=>tl σ H fun x H1=>∃a,x=.ref a/\(∃xs,aH K H1 a xs)/\R (Fn K a) H1
def GC(K:Za)(tl:TE):TI:=fun σ H R=>tl σ H fun x H1=>∃a,x=.ref a/\(∃xs,cj K H1 a xs)/\R (GO K a) H1
theorem cL{l:Expr}{i:TE}(j:PE X l i):PI X tg l (gf X.K i):=by
 intro k s σ H R I h;refine bY (j k s σ H _ I h) fun v d g=>?_;obtain⟨x,m,f,n,r⟩:=g;obtain⟨a,e,⟨xs,t⟩,q⟩:=r;subst e;cases n;obtain⟨u,y,p,z⟩:=f.list t;refine zU p.isList ?_;refine⟨d.heap.objs.size,[d.heap.objs.size],_,_,m,rfl,f.kept (t':=d.toks) fun b o e=>aF _ e,tV a _,⟨_,bF _ rfl,rfl,rfl⟩,fun b w=>?_,q⟩;have e:b=d.heap.objs.size:=by simpa using w
 subst e;exact f.fpOk (az _) (f.hok.fresh (az _))
theorem CU{l:Expr}{j:TE}(k:PE X l j):PI X tg l (GC X.K j):=by
 intro m s σ H R I h;refine bY (k m s σ H _ I h) fun v d g=>?_;obtain⟨x,n,f,r,t⟩:=g;obtain⟨a,e,⟨xs,u⟩,q⟩:=t;subst e;cases r;obtain⟨i,y,p,z⟩:=f.tuple u;refine zT (show d.heap.IsTuple a i.toArray from p) ?_;refine⟨d.heap.objs.size,[d.heap.objs.size],_,_,n,rfl,f.kept (t':=d.toks) fun b o e=>aF _ e,rD a _,⟨_,bF _ rfl,rfl,rfl⟩,fun b w=>?_,q⟩;have e:b=d.heap.objs.size:=by simpa using w
 subst e;exact f.fpOk (az _) (f.hok.fresh (az _))
theorem CC{a:Zd}{σ:St}{H:Hp}{s:Shared}{R:It->Hp->Prop}{E:Zc}{lo hi:Int}{t u v:Tok}{tk:Nat}(I:Inv X a σ H s)(f:-(2 ^ 62)<=lo)(g:lo<2 ^ 62)(h:-(2 ^ 62)<=hi)(i:hi<2 ^ 62)
  (q:R (GP lo (hi-lo).toNat) H):wpAny (model X.prog X.w) X.A (pyIter (.ref s.heap.objs.size)) (HW X a σ tg R) E { s with heap:=s.heap.push { cls:=.type "range",data:=.fields #[.int lo t,.int hi u,.int 1 v] },toks:=tk }:=by
 refine wpAny_pyIter_range (IsRange.new ..) (small_one f g h i) ?_;have d:Inv X a σ H { s with heap:=s.heap.push { cls:=.type "range",data:=.fields #[.int lo t,.int hi u,.int 1 v] },toks:=tk }:=I.kept fun b o e=>aF _ e;refine⟨(s.heap.push { cls:=.type "range",data:=.fields #[.int lo t,.int hi u,.int 1 v] }).objs.size,[(s.heap.push { cls:=.type "range",data:=.fields #[.int lo t,.int hi u,.int 1 v] }).objs.size],_,_,H,rfl,
  d.kept (t':=tk) fun b o e=>aF _ e,x_ _ lo (hi-lo).toNat,?_,fun b j=>?_,q⟩
 ·have k:lo+((0:Nat):Int) * 1=lo:=by simp
  have l:(((hi-lo).toNat:Nat):Int)-((0:Nat):Int)=aS.Range.rangeSize lo hi 1:=by rw[rangeSize_one];split<;>omega
  show IsRangeIter _ _ (lo+((0:Nat):Int) * 1) ((((hi-lo).toNat:Nat):Int)-((0:Nat):Int)) 1;rw[k,l];exact bF _ rfl
 ·have e:b=(s.heap.push { cls:=.type "range",data:=.fields #[.int lo t,.int hi u,.int 1 v] }).objs.size:=by simpa using j
  subst e;exact d.fpOk (az _) (d.hok.fresh (az _))
def pL(ta:TA):TI:=fun σ H R=>ta σ H fun vs H1=>∃j:Int,vs=[.int j]/\-(2 ^ 62)<=j/\j<2 ^ 62/\R (GP 0 j.toNat) H1
theorem gU{a:Expr}{i:TA}{p d:Pos}(k:Gl X "range")(l:X.mg "range"=none)(m:PA X [a] i)(n:aq [a] X.env=[(false,eval a X.env)]:=by rfl):PI X tg (.Call (.Name "range" p) [a] [] d) (pL i):=by
 intro o s σ H R I h;refine Call_ (jE I k l boot_range (tM (bY (m d o s σ H _ I h) fun y z f=>?_) n rfl));obtain⟨A,B,u,v,g⟩:=f;obtain⟨j,e,g,w,q⟩:=g;subst e;cases v with
 |cons r x =>
  cases x;obtain⟨t,rfl⟩:=r;exact call_range_1 (CC u (by omega) (by omega) g w (by simpa using q))
def fK(wi:TI)(g:TG)(tb:TS):TS:=fun D σ H=>wi σ H fun J H1=>∃W:Nat->Nat->St->Hp->Prop,(∃m,W 0 m σ H1)/\∀i m σ H,W i m σ H ->
 (J.stop i H/\D.nx σ H)∨(J.go i H/\∃N:St->Hp->Prop,(∀σ' H',N σ' H'->∃m',m'<m/\W (i+1) m' σ' H')/\∀x H',J.yld i H x H'->g x σ H' fun σ2 H2=>tb { D with nx:=N,ct:=N,bk:=D.nx } σ2 H2)
def o5(fp:Ze)(h:Heap):List (Addr×Obj):=fp.filterMap fun b=>(h.get? b).map fun o=>(b,o)
theorem fM{fp:Ze}{h:Heap}{b:Addr}{o:Obj}(a:b∈fp)(e:h.get? b=some o):(b,o)∈o5 fp h:=List.mem_filterMap.mpr ⟨b,a,by rw[e];rfl⟩
theorem Br{a:Ze}{h:Heap}{p:Addr×Obj}(d:p∈o5 a h):p.1∈a/\h.get? p.1=some p.2:=by
 obtain⟨b,f,e⟩:=List.mem_filterMap.mp d;cases q:h.get? b with
 |none=>rw[q]at e;cases e
 |some o =>
  rw[q]at e;have g:(b,o)=p:=eJ e;subst g;exact⟨f,q⟩
theorem Inv.pinned{a:Zd}{σ:St}{H:Hp}{s:Shared}{f:Ze}(I:Inv X a σ H s)(hf:∀b∈f,kJ X a H b)(i:∀b∈f,∃o,s.heap.get? b=some o/\∀v,o.data≠.cell v):Inv X (a++o5 f s.heap) σ H s :=
 I.pins_of fun p j=>(bM.mp j).elim (fun z=>I.pin p (dA _ z)) fun z=>by
  obtain⟨g,e⟩:=Br z;obtain⟨k,l,m,_⟩:=hf p.1 g;obtain⟨o,h,d⟩:=i p.1 g;rw[e]at h;cases h;exact⟨e,k,l,m,d⟩
theorem Inv.unpinned{a d:Zd}{σ:St}{H:Hp}{s:Shared}(I:Inv X (a++d) σ H s):Inv X a σ H s:=I.pins_of fun p e=>I.pin p (dA _ (eM _ e))
theorem cE{j:Expr}{y:List Stmt}{wi:TI}{g:TG}{tb:TS}{U:Pos}(E:wo (model X.prog X.w) X.A X.env X.xe)(hc:X.calm=true)(hi:PI X tg j wi)(hg:PG X tg g)(k:uE X y tb)
  (hs:∀x,tL j X.env x=pure x:=by intro _;rfl):PS X (.For tg j y [] U) (fK wi g tb):=by
 intro B s σ H D I h;refine wpAny_For (bY (hi B s σ H _ I h) fun v s1 h1=>bY h1 fun an s2 h2=>?_) hs;obtain⟨it,G,tn,J,H2,e,I2,T,Y,f2,W,⟨m0,w0⟩,turn⟩:=h2;subst e;have l:∀{t:Hp},(∀b∈G,t b=none)->∀b∈G,kJ X B t b:=fun hn b k=>⟨hn b k,(f2 b k).2⟩;refine codeAny_forLoop_any (fun n s'=>∃i σ' t,Inv X B σ' t s'/\tn i s'.heap/\(∀b∈G,t b=none)/\W i n σ' t) ?_ m0 ⟨0,σ,H2,I2,Y,fun b k=>(f2 b k).1,w0⟩;rintro n s3 ⟨i,σ3,Q,I3,L,M,w3⟩;rcases turn i n σ3 Q w3 with⟨stop,qn⟩|⟨go,N,hN,step⟩
 ·refine iw E (bY (T.done X rfl rfl rfl hc i B s3 σ3 Q X.xe I3 (l M) L stop) fun r s4 a=>?_);obtain⟨hr,I4⟩:=a;subst hr;exact mW ⟨σ3,Q,I4,qn⟩
 ·refine iw E (bY (T.item X rfl rfl rfl hc i B s3 σ3 Q X.xe I3 (l M) L go) fun r s4 a=>?_);obtain⟨u,hr,h4⟩:=a;subst hr;refine iw E (bY h4 fun _ s5 a=>?_);obtain⟨x,H5,I5,r5,y5,C,ab⟩:=a;have al:=I5.pinned (l ab) (T.obj _ _ C);refine iw E (bY (hg _ s5 σ3 H5 x u _ al r5 (step x H5 y5)) fun _ s6 a=>?_);obtain⟨σ6,H6,I6,q6⟩:=a;refine iw E (bY (k _ s6 σ6 H6 _ I6 q6) fun f s7 z=>?_);have again:∀{σ7:St}{p:Hp},Inv X (B++o5 G s5.heap) σ7 p s7->N σ7 p->∃m,m<n/\∃i σ' t,Inv X B σ' t s7/\tn i s7.heap/\(∀b∈G,t b=none)/\W i m σ' t:=fun{σ7 p} q O=>by
   obtain⟨m',hm,w7⟩:=hN σ7 p O;refine⟨m',hm,i+1,σ7,p,q.unpinned,T.keep _ _ _ C fun b k o e=>(q.pin (b,o) (dA _ (dA _ (fM k e)))).1,fun b k=>?_,w7⟩;obtain⟨o,e,d⟩:=T.obj _ _ C b k;exact(q.pin (b,o) (dA _ (dA _ (fM k e)))).2.1
  cases f with
  |next=>obtain⟨σ7,p,q,O⟩:=z;exact again q O
  |cont=>obtain⟨σ7,p,q,O⟩:=z;exact again q O
  |brk=>obtain⟨σ7,p,q,z⟩:=z;exact⟨σ7,p,q.unpinned,z⟩
  |ret v=>obtain⟨x7,σ7,p,q,r7,z⟩:=z;exact⟨x7,σ7,p,q.unpinned,r7,z⟩
end
theorem fk{K:Za}{a:Addr}{xs:List V}{g:TG}{j:TS}{D:eD}{σ:St}{H:Hp}(Pv:Nat->St->Hp->Prop)(l:Pv 0 σ H)(n:∀i σ H,i<=xs.length->Pv i σ H->aH K H a xs)
  (o:∀i x σ H,xs[i]?=some x->Pv i σ H->g x σ H fun σ2 h=>j { D with nx:=Pv (i+1),ct:=Pv (i+1),bk:=D.nx } σ2 h) (r:∀σ H,Pv xs.length σ H->D.nx σ H) :
  ∃W:Nat->Nat->St->Hp->Prop,(∃m,W 0 m σ H)/\∀i m σ H,W i m σ H ->
   ((Fn K a).stop i H/\D.nx σ H)∨((Fn K a).go i H/\∃N:St->Hp->Prop,(∀σ' d,N σ' d->∃k,k<m/\W (i+1) k σ' d)/\∀x d,(Fn K a).yld i H x d->g x σ d fun σ2 h=>j { D with nx:=N,ct:=N,bk:=D.nx } σ2 h):=by
 refine⟨fun i m σ H=>m=xs.length-i/\i<=xs.length/\Pv i σ H,⟨xs.length,by simp,dY _,l⟩,?_⟩;rintro i m σ H ⟨rfl,hi,p⟩;have q:=n i σ H hi p;by_cases f:i<xs.length
 ·refine .inr ⟨⟨xs,xs[i],q,by simp[f]⟩,Pv (i+1),fun σ' d s=>⟨xs.length-(i+1),by omega,rfl,f,s⟩,fun x d y=>?_⟩;obtain⟨e,y⟩:=y;subst e;exact o i x σ _ (y xs q) p
 ·have e:i=xs.length:=by omega
  subst e;exact .inl ⟨⟨xs,q,az _⟩,r σ H p⟩
theorem AN{K:Za}{a:Addr}{xs:List V}{g:TG}{j:TS}{D:eD}{σ:St}{H:Hp}(Pv:Nat->St->Hp->Prop)(l:Pv 0 σ H)(n:∀i σ H,i<=xs.length->Pv i σ H->cj K H a xs)
  (o:∀i x σ H,xs[i]?=some x->Pv i σ H->g x σ H fun σ2 h=>j { D with nx:=Pv (i+1),ct:=Pv (i+1),bk:=D.nx } σ2 h) (r:∀σ H,Pv xs.length σ H->D.nx σ H) :
  ∃W:Nat->Nat->St->Hp->Prop,(∃m,W 0 m σ H)/\∀i m σ H,W i m σ H ->
   ((GO K a).stop i H/\D.nx σ H)∨((GO K a).go i H/\∃N:St->Hp->Prop,(∀σ' d,N σ' d->∃k,k<m/\W (i+1) k σ' d)/\∀x d,(GO K a).yld i H x d->g x σ d fun σ2 h=>j { D with nx:=N,ct:=N,bk:=D.nx } σ2 h):=by
 refine⟨fun i m σ H=>m=xs.length-i/\i<=xs.length/\Pv i σ H,⟨xs.length,by simp,dY _,l⟩,?_⟩;rintro i m σ H ⟨rfl,hi,p⟩;have q:=n i σ H hi p;by_cases f:i<xs.length
 ·refine .inr ⟨⟨xs,xs[i],q,by simp[f]⟩,Pv (i+1),fun σ' d s=>⟨xs.length-(i+1),by omega,rfl,f,s⟩,fun x d y=>?_⟩;obtain⟨e,y⟩:=y;subst e;exact o i x σ _ (y xs q) p
 ·have e:i=xs.length:=by omega
  subst e;exact .inl ⟨⟨xs,q,az _⟩,r σ H p⟩
theorem k7{lo:Int}{n:Nat}{g:TG}{h:TS}{D:eD}{σ:St}{H:Hp}(Pv:Nat->St->Hp->Prop)(k:Pv 0 σ H)
  (l:∀i σ H,i<n->Pv i σ H->g (.int (lo+i)) σ H fun σ2 f=>h { D with nx:=Pv (i+1),ct:=Pv (i+1),bk:=D.nx } σ2 f) (o:∀σ H,Pv n σ H->D.nx σ H) :
  ∃W:Nat->Nat->St->Hp->Prop,(∃m,W 0 m σ H)/\∀i m σ H,W i m σ H ->
   ((GP lo n).stop i H/\D.nx σ H)∨((GP lo n).go i H/\∃N:St->Hp->Prop,(∀σ' a,N σ' a->∃j,j<m/\W (i+1) j σ' a)/\∀x a,(GP lo n).yld i H x a->g x σ a fun σ2 f=>h { D with nx:=N,ct:=N,bk:=D.nx } σ2 f):=by
 refine⟨fun i m σ H=>m=n-i/\i<=n/\Pv i σ H,⟨n,by simp,dY _,k⟩,?_⟩;rintro i m σ H ⟨rfl,hi,p⟩;by_cases d:i<n
 ·refine .inr ⟨d,Pv (i+1),fun σ' a q=>⟨n-(i+1),by omega,rfl,d,q⟩,fun x a y=>?_⟩;obtain⟨e,y⟩:=y;subst e y;exact l i σ _ d p
 ·have e:i=n:=by omega
  subst e;exact .inl ⟨az _,o σ H p⟩
end L2
namespace L2
open PySem PySem.Spec PyProof.Rows
abbrev R2:=V->V->Hp->VK->Prop
def n6(X:Cx)(f:Value->Value->Sem Value)(r:R2):Prop :=
 ∀(J2:Zd) (s:Shared) (σ:St) (H:Hp) (x y:V) (v u:Value) (Q:VK),Inv X J2 σ H s->RelV x v->RelV y u->r x y H Q ->
  wpAny (model X.prog X.w) X.A (f v u) (EP X J2 σ Q) X.xe s
def fq(X:Cx)(f:Value)(r:List V->Hp->VK->Prop):Prop :=
 ∀(J2:Zd) (s:Shared) (σ:St) (H:Hp) (xs:List V) (us:Zf) (Q:VK),Inv X J2 σ H s->aP xs us->r xs H Q ->
  wpAny (model X.prog X.w) X.A (call f us) (EP X J2 σ Q) X.xe s
def aJ(r:R2)(ta tb:TE):TE:=fun σ H Q=>ta σ H fun x H1=>tb σ H1 fun y H2=>r x y H2 Q
def rI(C:Int->Int->Prop)(g:Int->Int->V):R2:=fun x y H Q=>∃i j,x=.int i/\y=.int j/\C i j/\Q (g i j) H
def B1(g:Int->Int->V):R2:=fun x y H Q=>∃i j,x=.int i/\y=.int j/\Q (g i j) H
section
variable{X:Cx}{a b c:Expr}{ta tb tc:TE}{pos:Pos}
theorem GH(m:PE X a ta)(n:PE X b tb){j:Zd}{s:Shared}{σ:St}{H:Hp}{R:V->V->Hp->Prop}(I:Inv X j σ H s)
  (h:ta σ H fun x l=>tb σ l fun y e=>R x y e) {Q:Zc}{f:Value->Value->Sem Value}
  (hf:∀v u k x y e,Inv X j σ e k->RelV x v->RelV y u->R x y e->wpAny (model X.prog X.w) X.A (f v u) Q X.xe k) :
  wpAny (model X.prog X.w) X.A (eval a X.env) (fun v g=>wpAny (model X.prog X.w) X.A (eval b X.env) (fun u i=>wpAny (model X.prog X.w) X.A (f v u) Q X.xe i) X.xe g) X.xe s:=by
 refine bY (m j s σ H _ I h) fun v o d=>?_;obtain⟨x,l,p,q,r⟩:=d;refine bY (n j o σ l _ p r) fun u k d=>?_;obtain⟨y,e,t,z,B⟩:=d;exact hf v u k x y e t q z B
theorem aB{d:Operator}{r:R2}(e:n6 X (pC d) r)(f:PE X a ta)(g:PE X b tb):PE X (.BinOp a d b pos) (aJ r ta tb):=by
 intro i s σ H Q I h;exact wpAny_BinOp (GH f g I h fun v u j x y k l m n q=>e i j σ k x y v u Q l m n q)
theorem HR{f:Value->Value->Sem Value}{C:Int->Int->Prop}{g:Int->Int->Int}
  (rule:∀(i j:Int) (t u:Tok) (s:Shared) (Q:Zc) (E:Zc),C i j->Q (.int (g i j) s.toks) { s with toks:=s.toks+1 }->wpAny (model X.prog X.w) X.A (f (.int i t) (.int j u)) Q E s) :
  n6 X f (rI C fun i j=>.int (g i j)):=by
 intro m s σ H x y v u Q I d e h;obtain⟨i,j,rfl,rfl,k,q⟩:=h;obtain⟨t,rfl⟩:=d;obtain⟨l,rfl⟩:=e;exact rule i j t l s _ _ k ⟨.int (g i j),H,I.tok _,⟨_,rfl⟩,q⟩
theorem opI0{f:Value->Value->Sem Value}{g:Int->Int->Int}
  (rule:∀(i j:Int) (t u:Tok) (s:Shared) (Q:Zc) (E:Zc),Q (.int (g i j) s.toks) { s with toks:=s.toks+1 }->wpAny (model X.prog X.w) X.A (f (.int i t) (.int j u)) Q E s) :
  n6 X f (B1 fun i j=>.int (g i j)):=by
 intro l s σ H x y v u Q I d e h;obtain⟨i,j,rfl,rfl,q⟩:=h;obtain⟨t,rfl⟩:=d;obtain⟨k,rfl⟩:=e;exact rule i j t k s _ _ ⟨.int (g i j),H,I.tok _,⟨_,rfl⟩,q⟩
theorem ET{f:Value->Value->Sem Value}{g:Int->Int->Bool}
  (rule:∀(i j:Int) (t u:Tok) (s:Shared) (Q:Zc) (E:Zc),Q (.bool (g i j)) s->wpAny (model X.prog X.w) X.A (f (.int i t) (.int j u)) Q E s) :
  n6 X f (B1 fun i j=>.bl (g i j)):=by
 intro l s σ H x y v u Q I d e h;obtain⟨i,j,rfl,rfl,q⟩:=h;obtain⟨t,rfl⟩:=d;obtain⟨k,rfl⟩:=e;exact rule i j t k s _ _ ⟨.bl (g i j),H,I,rfl,q⟩
def HK(i j:Int):Prop:=0<j/\j<1073741824
def HJ(i j:Int):Prop:=0<=j/\j<=1000000/\i.natAbs<2 ^ 64
def DU(i j:Int):Prop:=(-(2 ^ 64)<i/\i<2 ^ 64)∨(-(2 ^ 64)<j/\j<2 ^ 64)
theorem DU.ok{i j:Int}(h:DU i j):IntMulOk i j:=by
 rcases h with⟨d,e⟩|⟨d,e⟩
 ·exact .of_left (intBits_le_64 d e)
 ·exact .of_right (intBits_le_64 d e)
theorem bE:n6 X (pC .Add) (B1 fun i j=>.int (i+j)):=opI0 fun _ _ _ _ _ _ _ q=>add_int q
theorem gu:n6 X (pC .Mult) (rI DU fun i j=>.int (i * j)):=HR fun _ _ _ _ _ _ _ d q=>mul_int q d.ok
theorem vM:n6 X (pC .FloorDiv) (rI HK fun i j=>.int (i / j)):=HR fun i j _ _ _ _ _ d q=>by
 have e:(0:Int)<j:=d.1;have f:j<1073741824:=d.2;exact floordiv_int (by omega) (by rw[Int.fdiv_eq_ediv_of_nonneg i (by omega)];exact q) (.inl (PyProof.noPylong_small (by omega)))
theorem dW:n6 X (pC .Mod) (rI (fun _ j=>0<j) fun i j=>.int (i % j)):=HR fun i j _ _ _ _ _ d q=>by
 have e:(0:Int)<j:=d;exact mod_int' (by omega) (by rw[Int.fmod_eq_emod_of_nonneg i (by omega)];exact q)
theorem C2:n6 X (pC .Pow) (rI HJ fun i j=>.int (i ^ j.toNat)):=HR fun _ _ _ _ _ _ _ d q=>pow_int_small d.1 d.2.1 d.2.2 q
end
def Hd:V->V->Bool
 |.non,.non=>true | .non,.int _=>true | .int _,.non=>true | .non,.bl _=>true | .bl _,.non=>true | .non,.str _=>true | .str _,.non=>true
 |.int _,.int _=>true | .bl _,.bl _=>true | .str _,.str _=>true | .byt _,.byt _=>true
 |.int _,.str _=>true | .str _,.int _=>true | .bl _,.str _=>true | .str _,.bl _=>true
 |_,_=>false
def EE:R2:=fun x y H Q=>Hd x y=true/\Q (.bl (decide (x=y))) H
def Am:R2:=fun x y H Q=>Hd x y=true/\Q (.bl (!decide (x=y))) H
theorem AS{i j:Int}:decide (V.int i=V.int j)=(i==j):=by
 rw[tK];simp
theorem DF{i j:Bool}:decide (V.bl i=V.bl j)=(i==j):=by
 rw[tK];simp
theorem AR{i j:Str}:decide (V.str i=V.str j)=(i==j):=by
 rw[tK];simp
theorem AT{i j:Array UInt8}:decide (V.byt i=V.byt j)=(i.toList==j.toList):=by
 rw[tK];cases i;cases j;simp
section
variable{X:Cx}{a b c:Expr}{ta tb tc:TE}{pos:Pos}
theorem bp{d:Zd}{σ:St}{H:Hp}{s:Shared}{Q:VK}{k f:Bool}(I:Inv X d σ H s)(q:Q (.bl k) H)(e:k=f):EP X d σ Q (.bool f) s:=by
 subst e;exact⟨.bl k,H,I,rfl,q⟩
theorem rY:n6 X (dZ .Eq) EE:=by
 intro k s σ H x y v u Q I g d h;obtain⟨f,q⟩:=h;cases x with
 |non =>
  cases g;cases y with
  |non=>cases d;exact PySem.EqNone.eq_none_none (bp I q (by simp))
  |bl j=>cases d;exact PySem.EqNone.eq_none_bool (bp I q (by simp))
  |int j=>obtain⟨e,rfl⟩:=d;exact PySem.EqNone.eq_none_int (bp I q (by simp))
  |str j=>obtain⟨e,rfl⟩:=d;exact PySem.EqNone.eq_none_str (bp I q (by simp))
  |_=>exact absurd (show false=true from f) fX
 |bl i =>
  cases g;cases y with
  |non=>cases d;exact PySem.EqNone.eq_bool_none (bp I q (by simp))
  |bl j=>cases d;exact eq_bool (bp I q DF)
  |str j=>obtain⟨e,rfl⟩:=d;exact PySem.EqMixed.eq_bool_str (bp I q (by simp))
  |_=>exact absurd (show false=true from f) fX
 |int i =>
  obtain⟨t,rfl⟩:=g;cases y with
  |non=>cases d;exact PySem.EqNone.eq_int_none (bp I q (by simp))
  |int j=>obtain⟨e,rfl⟩:=d;exact eq_int (bp I q AS)
  |str j=>obtain⟨e,rfl⟩:=d;exact PySem.EqMixed.eq_int_str (bp I q (by simp))
  |_=>exact absurd (show false=true from f) fX
 |str i =>
  obtain⟨t,rfl⟩:=g;cases y with
  |non=>cases d;exact PySem.EqNone.eq_str_none (bp I q (by simp))
  |bl j=>cases d;exact PySem.EqMixed.eq_str_bool (bp I q (by simp))
  |int j=>obtain⟨e,rfl⟩:=d;exact PySem.EqMixed.eq_str_int (bp I q (by simp))
  |str j=>obtain⟨e,rfl⟩:=d;exact eq_str (bp I q AR)
  |_=>exact absurd (show false=true from f) fX
 |byt i =>
  obtain⟨t,rfl⟩:=g;cases y with
  |byt j=>obtain⟨e,rfl⟩:=d;exact PySem.W.eq_bytes (bp I q AT)
  |_=>exact absurd (show false=true from f) fX
 |_=>cases y<;>exact absurd (show false=true from f) fX
theorem Ay:n6 X (dZ .NotEq) Am:=by
 intro k s σ H x y v u Q I g d h;obtain⟨f,q⟩:=h;cases x with
 |non =>
  cases g;cases y with
  |non=>cases d;exact PySem.EqNone.ne_none_none (bp I q (by simp))
  |bl j=>cases d;exact PySem.EqNone.ne_none_bool (bp I q (by simp))
  |int j=>obtain⟨e,rfl⟩:=d;exact PySem.EqNone.ne_none_int (bp I q (by simp))
  |str j=>obtain⟨e,rfl⟩:=d;exact PySem.EqNone.ne_none_str (bp I q (by simp))
  |_=>exact absurd (show false=true from f) fX
 |bl i =>
  cases g;cases y with
  |non=>cases d;exact PySem.EqNone.ne_bool_none (bp I q (by simp))
  |bl j=>cases d;exact ne_bool (bp I q (congrArg not DF))
  |str j=>obtain⟨e,rfl⟩:=d;exact PySem.EqMixed.ne_bool_str (bp I q (by simp))
  |_=>exact absurd (show false=true from f) fX
 |int i =>
  obtain⟨t,rfl⟩:=g;cases y with
  |non=>cases d;exact PySem.EqNone.ne_int_none (bp I q (by simp))
  |int j=>obtain⟨e,rfl⟩:=d;exact ne_int (bp I q (congrArg not AS))
  |str j=>obtain⟨e,rfl⟩:=d;exact PySem.EqMixed.ne_int_str (bp I q (by simp))
  |_=>exact absurd (show false=true from f) fX
 |str i =>
  obtain⟨t,rfl⟩:=g;cases y with
  |non=>cases d;exact PySem.EqNone.ne_str_none (bp I q (by simp))
  |bl j=>cases d;exact PySem.EqMixed.ne_str_bool (bp I q (by simp))
  |int j=>obtain⟨e,rfl⟩:=d;exact PySem.EqMixed.ne_str_int (bp I q (by simp))
  |str j=>obtain⟨e,rfl⟩:=d;exact ne_str (bp I q (congrArg not AR))
  |_=>exact absurd (show false=true from f) fX
 |byt i =>
  obtain⟨t,rfl⟩:=g;cases y with
  |byt j=>obtain⟨e,rfl⟩:=d;exact PySem.W.ne_bytes (bp I q (congrArg not AT))
  |_=>exact absurd (show false=true from f) fX
 |_=>cases y<;>exact absurd (show false=true from f) fX
theorem Az:n6 X (dZ .Lt) (B1 fun i j=>.bl (decide (i<j))):=ET fun _ _ _ _ _ _ _ q=>lt_int q
theorem Hl:n6 X (dZ .LtE) (B1 fun i j=>.bl (decide (i<=j))):=ET fun _ _ _ _ _ _ _ q=>le_int q
theorem AA:n6 X (dZ .Gt) (B1 fun i j=>.bl (decide (j<i))):=ET fun _ _ _ _ _ _ _ q=>gt_int q
theorem Hm:n6 X (dZ .GtE) (B1 fun i j=>.bl (decide (j<=i))):=ET fun _ _ _ _ _ _ _ q=>ge_int q
theorem Bq:n6 X (dZ .In) (fun x y H Q=>∃i j,x=.str i/\y=.str j/\Q (.bl (!(aS.Str.occurrences j i 0 j.length 1).isEmpty)) H):=by
 intro f s σ H x y v u Q I d e h;obtain⟨i,j,rfl,rfl,q⟩:=h;obtain⟨t,rfl⟩:=d;obtain⟨g,rfl⟩:=e;exact in_str (bp I q rfl)
theorem C4(b:Expr){d:CmpOp}(h:d≠.In:=by decide)(e:d≠.NotIn:=by decide):jP d b=false:=by
 have f:(d==CmpOp.In)=false:=by cases d<;>first|rfl|exact absurd rfl h
 have g:(d==CmpOp.NotIn)=false:=by cases d<;>first|rfl|exact absurd rfl e
 cases b<;>simp[jP,f,g]
theorem Aw{d:CmpOp}{r:R2}(e:n6 X (dZ d) r)(f:PE X a ta)(g:PE X b tb)(i:jP d b=false):PE X (.Compare a [d] [b] pos) (aJ r ta tb):=by
 intro j s σ H Q I h;exact wpAny_Compare1 (GH f g I h fun v u k x y l m n o q=>e j k σ l x y v u Q m n o q) i
def bX(t:TE):TT:=fun σ H Q=>t σ H fun x H'=>∃k,x=.bl k/\Q k H'
theorem Ar{d:CmpOp}{r:R2}(g:n6 X (dZ d) r)(i:PE X a ta)(j:PE X b tb)(l:jP d b=false):PT X (.Compare a [d] [b] pos) (bX (aJ r ta tb)):=by
 intro f s σ H Q I h;refine wpAny_isTrue_Compare1 (bY (i f s σ H _ I h) fun v m ⟨x,n,o,p,q⟩=>bY (j f m σ n _ o q) fun u t ⟨y,w,A,B,C⟩ =>
  bY (g f t σ w x y v u _ A p B C) fun c L ⟨z,D,E,G,k,e,J⟩=>?_) l
 subst e;cases G;exact qP ⟨D,E,J⟩
theorem o9:(aj:Nat)<2 ^ 63:=by rw[zS];decide
theorem jC:n6 X (pC .Add) (fun x y H Q=>∃i j,x=.str i/\y=.str j/\i.length+j.length<=aj/\Q (.str (i++j)) H):=by
 intro k s σ H x y v u Q I d e h;obtain⟨i,j,rfl,rfl,f,q⟩:=h;obtain⟨t,rfl⟩:=d;obtain⟨g,rfl⟩:=e;exact add_str (fun g tk=>⟨.str (i++j),H,I.tok _,⟨_,rfl⟩,q⟩) f
theorem vals1{x:V}{d:Zf}(r:aP [x] d):∃u,d=[u]/\RelV x u:=by
 cases r with
 |cons e f=>cases f;exact⟨_,rfl,e⟩
theorem vals2{x y:V}{d:Zf}(r:aP [x,y] d):∃u e,d=[u,e]/\RelV x u/\RelV y e:=by
 cases r with
 |cons f g =>
  cases g with
  |cons h i=>cases i;exact⟨_,_,rfl,f,h⟩
theorem BQ:fq X (.type "int") (fun xs H Q=>(∃i,xs=[.int i]/\Q (.int i) H)∨∃k,xs=[.bl k]/\Q (.int (if k then 1 else 0)) H):=by
 intro e s σ H xs f Q I r h;rcases h with⟨i,rfl,q⟩|⟨k,rfl,q⟩
 ·obtain⟨u,rfl,t,rfl⟩:=vals1 r;exact call_int_int ⟨.int i,H,I,⟨_,rfl⟩,q⟩
 ·obtain⟨u,rfl,d⟩:=vals1 r;cases d;exact call_int_bool ⟨.int (if k then 1 else 0),H,I.tok _,⟨_,rfl⟩,q⟩
end
end L2
namespace L2
open PySem PySem.Spec PyProof.Rows
structure zB(h:Heap)(x dx C:Addr)(mA:Str->Option Value):Prop where
 obj:h.get? x=some (pD C dx)
 ns:h.Ns1 dx mA
 ne:dx≠x
theorem Bv{h:Heap}{f:Addr}{g:Str->Option Value}(n:h.Ns1 f g):∃i,h.get? f=some i/\∀name,zR name i=some (g name):=by
 obtain⟨o,j,u,k,l,m,_,p⟩:=n;refine⟨o,k,fun name=>?_⟩;have e:=p name;unfold nsFind findBy at e;rw[<-Array.find?_toList]at e;unfold zR;rw[l];dsimp only;split
 ·rename_i y q;rw[q]at e;exact congrArg some e
 ·rename_i q;rw[q]at e;have a:j.toList.any (·.refKey)=false:=by
   rw[List.any_eq_false];intro y r;obtain⟨z,t,d⟩:=m y (Array.mem_toList_iff.mp r);simp[fF.refKey,d]
  have s:¬j.toList.any (·.refKey)=true:=by rw[a];exact fX
  rw[if_neg s];exact congrArg some e
theorem zB.look{h:Heap}{x d C:Addr}{e:Str->Option Value}(I:zB h x d C e):∃a,PySem.W.InstAt h x (pD C d) C (some a)/\∀name,zR name a=some (e name) :=
 let⟨a,f,g⟩:=Bv I.ns
 ⟨a,⟨I.obj,rfl,rfl,f⟩,g⟩
section
variable{prog:aU}{w:World}{A:Around}{E:Zc}{s:Shared}{K:Za}{x dx C f:Addr}{mA:Str->Option Value}{name:Str}{v:Value}
theorem EZ{a:Bool}{Q:Zc}(X:K.In s.heap)(I:zB s.heap x dx C mA)(e:tJ K C name=true)(g:wn K C=true)
  (i:aR K (.ref C) name=some none) (j:mA name=some v) (d:PySem.W.handedIn v=true) (h:Q v { s with toks:=s.toks+1 }) :
  wpAny (model prog w) A (getAttr (.ref x) name a) Q E s:=by
 obtain⟨l,J,k⟩:=I.look;exact PySem.W.get_value X J (PySem.W.plainGet_of e).1 (PySem.W.findObj_own g i rfl (by rw[k,j])) d h
theorem Dk{d:Sem Bool}{Q:Value×List Value->Shared->Prop}(X:K.In s.heap)(I:zB s.heap x dx C mA)(a:tJ K C name=true)
  (hf:aR K (.ref C) name=some (some (.ref f))) (e:wm K (.ref f)=true) (g:mA name=none) (h:Q (.ref f,[.ref x]) s) :
  wpAny (model prog w) A (mV (.ref x) name d) Q E s:=by
 obtain⟨i,J,j⟩:=I.look;exact PySem.W.method_fn X J (PySem.W.plainGet_of a).1 (PySem.W.plainGet_of a).2 hf (beq_iff_eq.mp e) (by show(zR name i).map (·.isSome)=some false;rw[j,g];rfl) h
theorem Ep{m:Zb}{Q:Unit->Shared->Prop}(X:K.In s.heap)(I:zB s.heap x dx C mA)
  (n:aR K (.ref C) "__setattr__"=some (some (.builtin "object.__setattr__"))) (o:zQ K C=true) (p:PySem.W.takerIn K C name=some none) (q:wn K C=true)
  (t:PySem.Within mA m) (u:m.length<=aj)
  (h:∀g,zB g x dx C (fun y=>if y=name then some v else mA y)->dP dx s.heap g->Q () { s with heap:=g,toks:=s.toks+2 }) :
  wpAny (model prog w) A (setAttr (.ref x) name v) Q E s:=by
 obtain⟨G,J,H⟩:=I.look;refine PySem.W.set_plain X J n (PySem.W.osa_open (s:={ s with toks:=s.toks+1 }) (r:=none) X J o p fun b=>?_);obtain⟨cd,z,i⟩:=PySem.W.any_some q;have hx:s.heap.get? x=some ⟨.ref C,some dx,.plain,#[]⟩:=I.obj;refine ac (ak (ac (ac (wpAny_loadPart hx (ac (PySem.W.Looks.here (s:={ s with toks:=s.toks+1 }) (PySem.W.looks_clsIn X z) ?_))))));rw[i];refine ak (a:=some dx) (ac (ak (ac ?_)));refine wpAny_nsSet1 (s:={ s with toks:=s.toks+1 }) I.ns fun g d e=>?_;obtain⟨L,B,D,j,k,l⟩:=d.count (PySem.Within.cons name v t);refine ac (wpAny_lookBehind j (by rw[k];exact pastItsLine_dict (bN l (by rw[dj];omega))) ?_);exact ak (h _ ⟨(e.2 _ (br I.ne)).trans I.obj,d,I.ne⟩ e)
theorem xu{R:Result->Shared->Prop}{a:Zf}{e:List (Str×Value)}(X:K.In s.heap)(i:pB K C=true)
  (hi:aR K (.ref C) "__init__"=some (some (.ref f))) (hf:PySem.W.typeIn K (.ref f)=some (.type "function"))
  (h:zzl87 (model prog w) (A.under (.builtin "type.__call__" ⟨.ref C::a,e⟩)) (.call (.ref f) ⟨.ref (s.heap.objs.size+1)::a,e⟩) (PySem.W.InitBack (s.heap.objs.size+1) R)
   { s with heap:=(s.heap.push mU).push (pD C s.heap.objs.size) }) :
  zzl87 (model prog w) A (.call (.ref C) ⟨a,e⟩) R s:=by
 obtain⟨j,g,d,t,os⟩:=s;exact PySem.W.make_core (PySem.W.makes_of X i) (PySem.W.looks_findIn X hi) (fun self=>PySem.W.bind_fn X self hf) (.inl rfl) h
end
def b9(f:Str)(v:V):List (Str×V)->List (Str×V)
 |[]=>[(f,v)]
 | (g,x)::r=>if g=f then(g,v)::r else(g,x)::b9 f v r
theorem dE(f g:Str)(v:V):∀fs:List (Str×V),(b9 f v fs).lookup g=if g=f then some v else fs.lookup g
 |[]=>by
  show jO g [(f,v)]=_;by_cases h:g=f
  ·have a:(g==f)=true:=beq_iff_eq.mpr h;simp only[jO,a,if_pos h]
  ·have a:(g==f)=false:=beq_eq_false_iff_ne.mpr h;simp only[jO,a,if_neg h]
 | (k,x)::r=>by
  have i:=dE f g v r;rw[show b9 f v ((k,x)::r)=(if k=f then(k,v)::r else(k,x)::b9 f v r)from rfl]
  by_cases d:k=f
  ·rw[if_pos d];by_cases h:g=k
   ·have a:(g==k)=true:=beq_iff_eq.mpr h;simp only[jO,a,if_pos (h.trans d)]
   ·have a:(g==k)=false:=beq_eq_false_iff_ne.mpr h;simp only[jO,a,if_neg (fun e:g=f=>h (e.trans d.symm))]
  ·rw[if_neg d];by_cases h:g=k
   ·have a:(g==k)=true:=beq_iff_eq.mpr h;simp only[jO,a,if_neg (fun e:g=f=>d (h.symm.trans e))]
   ·have a:(g==k)=false:=beq_eq_false_iff_ne.mpr h;simp only[jO,a];exact i
theorem o_(f:Str)(v:V):∀fs:List (Str×V),f∈(b9 f v fs).map (·.1)/\∀g,g∈fs.map (·.1)->g∈(b9 f v fs).map (·.1)
 |[]=>⟨by simp[b9],fun g h=>by simp at h⟩
 | (k,x)::r=>by
  obtain⟨d,i⟩:=o_ f v r;rw[show b9 f v ((k,x)::r)=(if k=f then(k,v)::r else(k,x)::b9 f v r)from rfl]
  by_cases a:k=f
  ·rw[if_pos a];subst a;exact⟨by simp,fun g h=>by simpa using h⟩
  ·rw[if_neg a];refine⟨?_,fun g h=>?_⟩
   ·rw[bg];exact cO _ d
   ·rw[bg]at h ⊢;rcases bA.mp h with e|e
    ·exact bA.mpr (.inl e)
    ·exact cO _ (i g e)
theorem pK(f:Str)(v:V):∀fs:List (Str×V),(b9 f v fs).length<=fs.length+1
 |[]=>by simp[b9]
 | (k,x)::r=>by
  have d:=pK f v r;rw[show b9 f v ((k,x)::r)=(if k=f then(k,v)::r else(k,x)::b9 f v r)from rfl]
  by_cases a:k=f
  ·rw[if_pos a,dj,dj];omega
  ·rw[if_neg a,dj,dj];omega
theorem jI.some_of{v:V}{o:Option Value}(r:jI (some v) o):∃u,o=some u/\RelV v u:=by
 cases o with
 |none=>exact(show False from r).elim
 |some u=>exact⟨u,rfl,r⟩
theorem jI.none_of{o:Option Value}(r:jI none o):o=none:=by
 cases o with
 |none=>rfl
 |some u=>exact(show False from r).elim
theorem BG{v:V}{u:Value}(r:RelV v u):PySem.W.handedIn u=true:=by
 cases v with
 |non=>cases(show u=Value.none from r);rfl
 |bl b=>cases(show u=Value.bool b from r);rfl
 |int i=>obtain⟨t,e⟩:=(show ∃t,u=Value.int i t from r);cases e;rfl
 |str x=>obtain⟨t,e⟩:=(show ∃t,u=Value.str x t from r);cases e;rfl
 |byt b=>obtain⟨t,e⟩:=(show ∃t,u=Value.bytes b t from r);cases e;rfl
 |flt b=>obtain⟨t,e⟩:=(show ∃t,u=Value.float b t from r);cases e;rfl
 |ref a=>cases(show u=Value.ref a from r);rfl
 |ty n=>cases(show u=Value.type n from r);rfl
section
variable{P:aU}{w:World}{H H':Hp}{h h':Heap}{a C dx:Addr}{fs fs':List (Str×V)}
theorem qx{K:Za}(i:jp P w K H h)(e:H a=some (.ins C dx fs)):∃g,zB h a dx C g/\(∀f,jI (fs.lookup f) (g f))/\PySem.Within g (fs.map (·.1))/\fs.length<=1000/\H dx=some (.own a):=by
 obtain⟨d,z,ne,j,g,n,r,q⟩:=(show aZ P w K H h a (.ins C dx fs)from i a _ e);exact⟨g,⟨j,n,ne⟩,r,q,z,d⟩
end
structure xV(K:Za)(C:Addr):Prop where
 pg:tJ K C Str.empty=true
 hd:wn K C=true
 po:zQ K C=true
 sa:aR K (.ref C) "__setattr__"=some (some (.builtin "object.__setattr__"))
theorem xV.get{K:Za}{C:Addr}(c:xV K C)(f:Str):tJ K C f=true:=c.pg
def cG(K:Za)(C:Addr)(f:Str):Prop:=aR K (.ref C) f=some none
theorem cG.taker{K:Za}{C:Addr}{f:Str}(n:cG K C f):PySem.W.takerIn K C f=some none:=by
 unfold PySem.W.takerIn;rw[show aR K (.ref C) f=some none from n]
 rfl
structure DR(K:Za)(C:Addr)(m:Str)(f:Addr):Prop where
 at_:aR K (.ref C) m=some (some (.ref f))
 fn:wm K (.ref f)=true
 kp:dh K (.ref f)=true
section
variable{X:Cx}{J2:Zd}{σ:St}{H:Hp}{s:Shared}{a C dx:Addr}{fs:List (Str×V)}{f:Str}{v:V}{A:Around}{E:Zc}
theorem sk{b:Bool}{Q:Zc}(I:Inv X J2 σ H s)(e:H a=some (.ins C dx fs))(c:xV X.K C)(n:cG X.K C f)(l:fs.lookup f=some v)
  (h:∀u d,Inv X J2 σ H d->RelV v u->Q u d):wpAny (model X.prog X.w) A (getAttr (.ref a) f b) Q E s:=by
 obtain⟨i,O,r,_,_,_⟩:=qx I.hok e;obtain⟨u,j,g⟩:=jI.some_of (v:=v) (o:=i f) (by rw[<-l];exact r f);exact EZ I.kIn O (c.get f) c.hd n j (BG g) (h u _ (I.tok _) g)
theorem my{m:Str}{g:Addr}{d:Sem Bool}{Q:Value×List Value->Shared->Prop}(I:Inv X J2 σ H s)(e:H a=some (.ins C dx fs))(c:xV X.K C)(k:DR X.K C m g)(l:fs.lookup m=none)
  (h:Q (.ref g,[.ref a]) s):wpAny (model X.prog X.w) A (mV (.ref a) m d) Q E s:=by
 obtain⟨i,O,r,_,_,_⟩:=qx I.hok e;have j:i m=none:=jI.none_of (by rw[<-l];exact r m);exact Dk I.kIn O (c.get m) k.at_ k.fn j h
theorem yu{y:V}{u:Value}{Q:Unit->Shared->Prop}(I:Inv X J2 σ H s)(e:H a=some (.ins C dx fs))(c:xV X.K C)(n:cG X.K C f)(M:fs.length<1000)(m:RelV y u)
  (h:∀i,Inv X J2 σ (upd H a (.ins C dx (b9 f y fs))) i->Q () i):wpAny (model X.prog X.w) A (setAttr (.ref a) f u) Q E s:=by
 obtain⟨j,O,r,k,_,l⟩:=qx I.hok e;have p:(fs.map (·.1)).length<=aj:=by rw[ao,zS];omega
 refine Ep I.kIn O c.sa c.po n.taker c.hd k p fun t d B=>h _ ?_;have D:∃o,t.get? dx=some o:=let⟨o,_,_,G,_⟩:=d.ns;⟨o,G⟩;refine I.write (x:=a) (e:=dx) (by rw[e];exact fy) (.inr l) (fun b q J z=>(B.2 b J).trans z) D ?_;refine⟨by rw[ah O.ne];exact l,?_,O.ne,d.obj,_,d.ns,fun g=>?_,fun g L=>?_⟩
 ·have:=pK f y fs;omega
 ·show jI ((b9 f y fs).lookup g) (if g=f then some u else j g)
  rw[dE];by_cases q:g=f
  ·rw[if_pos q,if_pos q];exact m
  ·rw[if_neg q,if_neg q];exact r g
 ·by_cases q:g=f
  ·rw[q];exact(o_ f y fs).1
  ·refine(o_ f y fs).2 g (k g fun z=>L ?_);show(if g=f then some u else j g)=none
   rw[if_neg q];exact z
theorem Inv.made(I:Inv X J2 σ H s):Inv X J2 σ (upd (upd H s.heap.objs.size (.own (s.heap.objs.size+1))) (s.heap.objs.size+1) (.ins C s.heap.objs.size []))
  { s with heap:=(s.heap.push mU).push (pD C s.heap.objs.size) }:=by
 have d:(s.heap.push mU).get? s.heap.objs.size=some mU:=bF s.heap rfl;have g:((s.heap.push mU).push (pD C s.heap.objs.size)).get? (s.heap.objs.size+1)=some (pD C s.heap.objs.size):=by
  have:=bF (s.heap.push mU) (o:=pD C s.heap.objs.size) rfl;rwa[gD]at this
 have h:(s.heap.push mU).Ns s.heap.objs.size (fun _=>none):=⟨mU,#[],_,d,rfl,(fun e i=>absurd i (by simp)),fun _=>rfl⟩;have j:=I.laid (a:=s.heap.objs.size) (o:=.own (s.heap.objs.size+1)) (h':=s.heap.push mU) (t':=s.toks) (fun b u q=>aF _ q) (az _) ⟨_,d⟩;refine j.laid (a:=s.heap.objs.size+1) (o:=.ins C s.heap.objs.size []) (t':=s.toks) (fun b u q=>aF _ q) (Nat.le_of_eq (gD _ _)) ?_;have ne:s.heap.objs.size≠s.heap.objs.size+1:=bB (Nat.lt_succ_self _);refine⟨by rw[ah ne,aa],dY _,ne,g,fun _=>none,(Heap.Ns1.of_empty h).at fun o q=>aF _ q,fun _=>fy,fun y k=>absurd rfl k⟩
theorem AW{d:aU}{w:World}{g:Env}{e:Expr}{f:Str}{j:Pos}{s:Shared}{Q:Zc}(k:jW e f g (eval e g)=eval e g)
  (h:wpAny (model d w) A (eval e g) (fun o i=>wpAny (model d w) A (getAttr o f true) Q E i) E s):wpAny (model d w) A (eval (.Attribute e f j) g) Q E s :=
 Attribute_any_ h (by rw[arm_eval_Attribute,k])
end
def fu(K:Za)(ta:TE)(f:Str):TE:=fun σ H Q=>ta σ H fun x H1=>∃a C dx fs v,x=.ref a/\H1 a=some (.ins C dx fs)/\xV K C/\cG K C f/\fs.lookup f=some v/\Q v H1
def nC(K:Za)(ta tv:TE)(f:Str):TS:=fun D σ H=>tv σ H fun y H1=>ta σ H1 fun x H2=>∃a C dx fs,x=.ref a/\H2 a=some (.ins C dx fs)/\xV K C/\cG K C f/\fs.length<1000 /\
 D.nx σ (upd H2 a (.ins C dx (b9 f y fs)))
section
variable{X:Cx}{o e value:Expr}{f:Str}{pos pos' J7:Pos}{ta tv:TE}
theorem bT(g:PE X e ta)(i:jW e f X.env (eval e X.env)=eval e X.env):PE X (.Attribute e f pos) (fu X.K ta f):=by
 intro j s σ H Q I h;refine AW i (bY (g j s σ H _ I h) fun u y d=>?_);obtain⟨x,k,m,p,a,C,z,fs,v,ex,r,c,n,l,q⟩:=d;subst ex;obtain rfl:u=Value.ref a:=p;exact sk m r c n l fun A B t w=>⟨v,k,t,w,q⟩
theorem fL(i:PE X o ta)(j:PE X value tv)(k:jX value (some (.Attribute o f pos')) pos.line X.env=pure false):PS X (.Assign [.Attribute o f pos'] value pos) (nC X.K ta tv f):=by
 intro g s σ H D I h;refine plainObj_wpAny_Assign_Attribute (bY (j g s σ H _ I h) fun u m ⟨y,p,r,t,q⟩=>bY (i g m σ p _ r q) fun v G d=>?_) k;obtain⟨x,J,w,z,a,C,L,fs,ex,A,c,n,l,B⟩:=d;subst ex;obtain rfl:v=Value.ref a:=z;exact yu w A c n l t fun M E=>⟨σ,_,E,B⟩
end
section
variable{X:Cx}{J2:Zd}{σ:St}{H:Hp}{s:Shared}{A:Around}{E:Zc}{Q:Zc}{c:Value}{b:Bool}
inductive gg(K:Za)(H:Hp):V->Value->Prop where
 |non:gg K H .non (.type "NoneType")
 |bl (x:Bool):gg K H (.bl x) (.type "bool")
 |int (i:Int):gg K H (.int i) (.type "int")
 |str (x:Str):gg K H (.str x) (.type "str")
 |flt (x:UInt64):gg K H (.flt x) (.type "float")
 |lst {a:Addr}{xs:List V}(e:H a=some (.lst xs)):gg K H (.ref a) (.type "list")
 |frz {a:Addr}{o:Obj}{xs:List V}(e:H a=some (.frz o (.lst xs))):gg K H (.ref a) (.type "list")
 |tup {a:Addr}{xs:List V}(e:H a=some (.tup xs)):gg K H (.ref a) (.type "tuple")
 |dK {a:Addr}{kvs:List (dg×V)}(e:H a=some (.dK kvs)):gg K H (.ref a) (.type "dict")
 |dT {a:Addr}{kvs:List (TK×V)}(e:H a=some (.dT kvs)):gg K H (.ref a) (.type "dict")
 |ins {a C dx:Addr}{fs:List (Str×V)}(e:H a=some (.ins C dx fs)) (cl:xV K C) (ha:aR K (.ref C) "__class__"=some (some (.builtin "object.__class__")))
   (hn:zP K (.builtin "object.__class__") "__get__"=some (some (.builtin "getset_descriptor.__get__"))) (htk:PySem.W.takesIn K (.builtin "object.__class__")=some true)
   (hm:PySem.W.mroIn K C (.type "object")=some true):gg K H (.ref a) (.ref C)
theorem BB{x:V}{u t:Value}(I:Inv X J2 σ H s)(d:RelV x u)(ty:gg X.K H x t)(e:gC X.K t c=some b)(h:∀tk,Q (.bool b) { s with toks:=tk }):
  wpAny (model X.prog X.w) A (call (.builtin "isinstance") [u,c]) Q E s:=by
 cases ty with
 |non=>cases(show u=Value.none from d);exact iu PySem.W.kitx_none I.kIn fy e (fun z=>nomatch z) h
 |bl y=>cases(show u=Value.bool y from d);exact iu PySem.W.kitx_bool I.kIn fy e (fun z=>nomatch z) h
 |int i=>obtain⟨t,q⟩:=(show ∃t,u=Value.int i t from d);cases q;exact iu PySem.W.kitx_int I.kIn fy e (fun z=>nomatch z) h
 |str y=>obtain⟨t,q⟩:=(show ∃t,u=Value.str y t from d);cases q;exact iu PySem.W.kitx_str I.kIn fy e (fun z=>nomatch z) h
 |flt y=>obtain⟨t,q⟩:=(show ∃t,u=Value.float y t from d);cases q;exact iu PySem.W.kitx_float I.kIn fy e (fun z=>nomatch z) h
 |@lst a xs f =>
  cases(show u=Value.ref a from d);obtain⟨_,_,n,_,g⟩:=(show aZ X.prog X.w X.K H s.heap a (.lst xs)from I.hok a _ f);exact iu PySem.W.kitx_list I.kIn ⟨_,g,rfl⟩ e (fun z=>nomatch z) h
 |@frz a r xs f =>
  cases(show u=Value.ref a from d);obtain⟨_,_,_,n,_,g⟩:=(show aZ X.prog X.w X.K H s.heap a (.frz r (.lst xs))from I.hok a _ f);exact iu PySem.W.kitx_list I.kIn ⟨_,g,rfl⟩ e (fun z=>nomatch z) h
 |@tup a xs f =>
  cases(show u=Value.ref a from d);obtain⟨_,_,_,p⟩:=(show aZ X.prog X.w X.K H s.heap a (.tup xs)from I.hok a _ f);obtain⟨o,g,k,_⟩:=p;exact iu PySem.W.kitx_tuple I.kIn ⟨o,g,k⟩ e (fun z=>nomatch z) h
 |@dK a j f =>
  cases(show u=Value.ref a from d);obtain⟨_,_,M,_,p⟩:=(show aZ X.prog X.w X.K H s.heap a (.dK j)from I.hok a _ f);obtain⟨o,v,B,g,k,_⟩:=p;exact iu PySem.W.kitx_dict I.kIn ⟨o,g,k.1⟩ e (fun z=>nomatch z) h
 |@dT a j f =>
  cases(show u=Value.ref a from d);obtain⟨_,_,xs,_,o,v,B,g,k,_⟩:=(show aZ X.prog X.w X.K H s.heap a (.dT j)from I.hok a _ f);exact iu PySem.W.kitx_dict I.kIn ⟨o,g,k.1⟩ e (fun z=>nomatch z) h
 |@ins a C N fs f m D G l L =>
  cases(show u=Value.ref a from d);obtain⟨T,O,_⟩:=qx I.hok f;obtain⟨U,J,_⟩:=O.look;exact iu (PySem.W.kitx_own (m.get _) m.hd D G l L) I.kIn J e (fun z=>nomatch z) h
end
end L2
namespace L2
open PySem PySem.Spec PyProof.Rows
structure cV(k:Nat)(A:Around):Prop where
 hd:A.handled=none
 dp:A.depth+3 * k+5<recursionLimit
 un:A.units+16 * k+200<cLine
theorem cV.mono{j k:Nat}{A:Around}(r:cV k A)(h:j<=k):cV j A:=⟨r.hd,by have:=r.dp;omega,by have:=r.un;omega⟩
theorem cV.deeper{k:Nat}{A:Around}(r:cV (k+1) A)(a:Env):cV k (A.deeper a) :=
 ⟨r.hd,by have:=r.dp;show A.depth+1+3 * k+5<_;omega,by have:=r.un;show A.units+3+16 * k+200<_;omega⟩
theorem yU{A:Around}{C:Addr}{a:Zf}{d:List (Str×Value)}:(A.under (.builtin "type.__call__" ⟨.ref C::a,d⟩)).depth=A.depth+1:=by
 first|rfl|simp[Around.under,Code.weight,Code.isCreation,Code.isGuard,Code.isCaller,Code.frames,Code.isFrame,guardIds]
theorem yT{A:Around}{C:Addr}{a:Zf}{d:List (Str×Value)}:(A.under (.builtin "type.__call__" ⟨.ref C::a,d⟩)).units=A.units+1:=by
 first|rfl|simp[Around.under,Code.cUnits,Code.frames,Code.isFrame]
theorem cV.make{k:Nat}{A:Around}(r:cV (k+1) A)(C:Addr)(a:Zf)(d:List (Str×Value)):cV k (A.under (.builtin "type.__call__" ⟨.ref C::a,d⟩)) :=
 ⟨r.hd,by have:=r.dp;rw[yU];omega,by have:=r.un;rw[yT];omega⟩
theorem cV.depth{k:Nat}{A:Around}(r:cV k A):A.depth<recursionLimit:=by have:=r.dp;omega
theorem cV.units{k:Nat}{A:Around}(r:cV k A):A.units+64<cLine:=by have:=r.un;omega
def cv:TA:=fun _ H Q=>Q [] H
def aG(ta:TE)(tr:TA):TA:=fun σ H Q=>ta σ H fun x H1=>tr σ H1 fun xs H2=>Q (x::xs) H2
abbrev aK(a:TE):TA:=aG a cv
abbrev aM(a b:TE):TA:=aG a (aG b cv)
abbrev dR(a b c:TE):TA:=aG a (aG b (aG c cv))
section
variable{X:Cx}{e:Expr}{es:List Expr}{te:TE}{t:TA}{pos:Pos}
theorem bH:PA X [] cv:=fun _ _ _ _ H Q I h=>wl ⟨[],H,I,.nil,h⟩
theorem aO(f:PE X e te)(g:PA X es t)(i:aq (e::es) X.env=(false,eval e X.env)::aq es X.env:=by rfl):PA X (e::es) (aG te t):=by
 intro pos d s σ H Q I h;rw[i];show wpAny _ _ (tO ((false,eval e X.env)::backTo pos (aq es X.env))) _ _ s;refine oK (bY (f d s σ H _ I h) fun u j a=>?_);obtain⟨x,k,l,m,n⟩:=a;exact bY (g pos d j σ k _ l n) fun v w ⟨xs,o,p,q,r⟩=>⟨x::xs,o,p,.cons m q,r⟩
def bW(t:TA):TE:=fun σ H Q=>t σ H fun xs H1=>xs.length<=aj/\∀p,H1 p=none->Q (.ref p) (upd H1 p (.tup xs))
def eL(t:TA):TE:=fun σ H Q=>t σ H fun xs H1=>xs.length<=aj/\∀p,H1 p=none->Q (.ref p) (upd H1 p (.lst xs))
theorem bh{g}(h:PA X es t):PE X (.Tuple es g pos) (bW t):=by
 intro i s σ H Q I j;refine wpAny_Tuple_spliced (bY (h pos i s σ H _ I j) fun k a ⟨xs,d,f,r,z,q⟩=>⟨by rw[<-r.length];exact z,?_⟩);have hf:d a.heap.objs.size=none:=f.hok.fresh (az _);refine⟨.ref a.heap.objs.size,upd d a.heap.objs.size (.tup xs),f.laid (t':=a.toks) (fun b u e=>aF _ e) (az _) ?_,rfl,q _ hf⟩;exact⟨z,k,r,⟨_,bF _ rfl,rfl,_,rfl⟩⟩
theorem bR(h:PA X es t):PE X (.List es pos) (eL t):=by
 intro g s σ H Q I i;refine wpAny_List_spliced (bY (h pos g s σ H _ I i) fun j a ⟨xs,d,f,r,z,q⟩=>⟨by rw[<-r.length];exact z,?_⟩);have hf:d a.heap.objs.size=none:=f.hok.fresh (az _);refine⟨.ref a.heap.objs.size,upd d a.heap.objs.size (.lst xs),f.laid (t':=a.toks) (fun b u e=>aF _ e) (az _) ?_,rfl,q _ hf⟩;exact⟨z,j,0,r,bF _ rfl⟩
end
abbrev Sp:=List V->Hp->VK->XK->Prop
abbrev BX:=List Env->Hp->Shared->XK->Value->Shared->Prop
structure zN(P:aU)(w:World)(K:Za)(mg:Str->Option Value)(base:Heap)(A:Around)(outer:List Env)(s:Shared)(H:Hp):Prop where
 frames:A.frames=some outer
 mod:Mod K mg base
 bs:∀b o,base.get? b=some o->s.heap.get? b=some o/\H b=none
 bsz:base.objs.size<=s.heap.objs.size
 funs:s.heap.FunFrames base outer
 frf:∀b∈sR outer,H b=none
 hok:jp P w K H s.heap
 bare:lK s.gens
def CE(outer:List Env)(P:aU)(w:World)(K:Za)(H:Hp)(s:Shared)(Q:VK)(u:Value)(s':Shared):Prop :=
 ∃v H',s'.os=s.os/\lK s'.gens/\Un (sR outer) [] H H' s.heap s'.heap/\jp P w K H' s'.heap/\RelV v u/\Q v H'
def CR(CX:BX)(outer:List Env)(P:aU)(w:World)(K:Za)(H:Hp)(s:Shared)(Q:VK)(E:XK)(r:Result)(s':Shared):Prop :=
 match r with
 |.ok (.ret u)=>CE outer P w K H s Q u s'
 |.ok _=>False
 |.error e=>CX outer H s E e s'
structure ig(P:aU)(w:World)(K:Za)(mg:Str->Option Value)(base:Heap)(CX:BX)(k:Nat)(f:Addr)(fd:eX)(ps:Zb)(sp:Sp):Prop where
 len:∀vs H Q E,sp vs H Q E->vs.length=ps.length
 run:∀(A:Around) (outer:List Env) (s:Shared) (H:Hp) (args:Args) (us:Zf) (vs:List V) (Q:VK) (E:XK),cV k A->zN P w K mg base A outer s H->md s fd args (ps.zip us)->aP vs us->sp vs H Q E ->
  zzl87 (model P w) A (.call (.ref f) args) (CR CX outer P w K H s Q E) s
theorem zN.make{P:aU}{w:World}{K:Za}{a:Str->Option Value}{base:Heap}{A:Around}{outer:List Env}{s:Shared}{H:Hp}(e:zN P w K a base A outer s H)(C:Addr)(d:Zf)(f:List (Str×Value)):
  zN P w K a base (A.under (.builtin "type.__call__" ⟨.ref C::d,f⟩)) outer s H:=⟨by first|exact e.frames|(simpa[Around.under,Code.envs,Code.isFrame,pushEnvs]using e.frames),e.mod,e.bs,e.bsz,e.funs,e.frf,e.hok,e.bare⟩
section
variable{X:Cx}{J2:Zd}{σ:St}{H:Hp}{s s':Shared}
theorem Inv.env0(I:Inv X J2 σ H s):zN X.prog X.w X.K X.mg X.base X.A X.stack s H :=
 ⟨I.ok.frames,I.ok.mod,I.bs,bN I.ok.bsz I.sz,I.stack,I.stkFree,I.hok,I.bare⟩
theorem Inv.after{Q:VK}{u:Value}(I:Inv X J2 σ H s)(h:CE X.stack X.prog X.w X.K H s Q u s'):EP X J2 σ Q u s':=by
 obtain⟨v,i,os,a,un,e,r,q⟩:=h;obtain⟨j,g,d,t,f⟩:=s';obtain rfl:f=s.os:=os;exact⟨v,i,I.call (h':=j) (g':=g) (d':=d) (t':=t) (ch:=[]) un e a (fun b z=>absurd z (by simp)),r,q⟩
end
def rN(sp:Sp)(dvs:List V)(E:XK)(t:TA):TE:=fun σ H Q=>t σ H fun vs H1=>sp (vs++dvs) H1 Q E
def fZ(C:Addr)(m:Str)(sp:Sp)(dvs:List V)(E:XK)(ta:TE)(t:TA):TE:=fun σ H Q=>ta σ H fun x H1=>∃a dx fs,x=.ref a/\H1 a=some (.ins C dx fs)/\fs.lookup m=none /\
 t σ H1 fun vs H2=>sp (x::(vs++dvs)) H2 Q E
def rJ(C:Addr)(sp:Sp)(dvs:List V)(E:XK)(t:TA):TE:=fun σ H Q=>t σ H fun vs H1=>∀x dx,H1 x=none->H1 dx=none->dx≠x ->
 sp (.ref x::(vs++dvs)) (upd (upd H1 dx (.own x)) x (.ins C dx [])) (fun v H2=>v=.non/\Q (.ref x) H2) E
def Binds(K:Za)(fd:eX)(ps:Zb)(ds:Zf):Prop :=
 ∀(s:Shared) (us:Zf),K.In s.heap->(us++ds).length=ps.length->md s fd ⟨us,[]⟩ (ps.zip (us++ds))
theorem Binds.all{K:Za}{e:eX}{d:Zb}(h:∀a:List Value,a.length=d.length->bindArgs e ⟨a,[]⟩=pure (d.zip a)):Binds K e d []:=fun s a _ f=>by
 rw[cp]at f ⊢;exact .of_eq (h a f)
def mG(CX:BX)(X:Cx)(E:XK):Prop:=∀(J2:Zd) (σ:St) (H:Hp) (s:Shared) (e:Value) (s':Shared),Inv X J2 σ H s->CX X.stack H s E e s'->X.xe e s'
section
variable{X:Cx}{CX:BX}{k:Nat}{f C:Addr}{fd:eX}{ps:Zb}{sp:Sp}{dvs:List V}{ds:Zf}{E:XK}{x m:Str}{p pos J4:Pos}{e o:Expr}{es:List Expr}{ta:TE}{t:TA}
theorem yy{d:Zd}{σ:St}{H:Hp}{s:Shared}{Q:VK}{us:Zf}{vs:List V}(F:ig X.prog X.w X.K X.mg X.base CX k f fd ps sp)(i:cV k X.A)(j:Binds X.K fd ps ds)(l:aP dvs ds)(hx:mG CX X E)
  (I:Inv X d σ H s) (r:aP vs us) (h:sp (vs++dvs) H Q E):wpAny (model X.prog X.w) X.A (call (.ref f) us) (EP X d σ Q) X.xe s:=by
 have g:aP (vs++dvs) (us++ds):=r.append l;have n:(us++ds).length=ps.length:=by rw[<-g.length];exact F.len _ _ _ _ h
 refine ju (ma (F.run X.A X.stack s H ⟨us,[]⟩ (us++ds) (vs++dvs) Q E i I.env0 (j s us I.kIn n) g h) fun r q a=>?_);cases r with
 |error e=>exact hx d σ H s e q I a
 |ok v =>
  cases v with
  |ret u=>exact I.after a
  |next=>exact bx a
  |brk=>exact bx a
  |cont=>exact bx a
theorem ER(F:ig X.prog X.w X.K X.mg X.base CX k f fd ps sp)(i:cV k X.A)(j:Gl X x)(l:X.mg x=some (.ref f))(n:dh X.K (.ref f)=true)(u:Binds X.K fd ps ds)(v:aP dvs ds)(hx:mG CX X E)
  (y:PA X (e::es) t) (a:(x==("__debug__":Str))=false:=by decide) (z:aq (e::es) X.env=(false,eval e X.env)::aq es X.env:=by rfl) (d:(backTo pos (aq es X.env)).any (·.1)=false:=by rfl) :
  PE X (.Call (.Name x p) (e::es) [] pos) (rN sp dvs E t):=by
 intro B s σ H Q I h;refine j_ (iG I j l ?_ a);refine l_ (h₀:=X.base) I.ok.mod.kin n (bY (y pos B s σ H _ I h) fun D G ⟨J,L,g,r,q⟩=>⟨g.kIn,?_⟩) z d;exact yy F i u v hx g r q
theorem EM{j:Sem Bool}(D:PE X o ta)(c:xV X.K C)(n:DR X.K C m f)(F:ig X.prog X.w X.K X.mg X.base CX k f fd ps sp)(G:cV k X.A)(J:Binds X.K fd ps ds)(L:aP dvs ds)(hx:mG CX X E)(M:PA X (e::es) t)
  (d:aq (e::es) X.env=(false,eval e X.env)::aq es X.env:=by rfl) (g:(backTo pos (aq es X.env)).any (·.1)=false:=by rfl)
  (N:eval (.Call (.Attribute o m J4) (e::es) [] pos) X.env=(do
   let v <- eval o X.env
   mY J4.atName
   let(f,first) <- i7 [v] (mV v m j)
   l9 pos f first (backTo pos (aq (e::es) X.env)) (iY pos (iX [] X.env))):=by rfl) :
  PE X (.Call (.Attribute o m J4) (e::es) [] pos) (fZ C m sp dvs E ta t):=by
 intro y s σ H Q I h;refine PySem.W.methodCall_KW (pl:=j) (bY (D y s σ H _ I h) fun u O i=>?_) N;obtain⟨x,T,z,U,a,dx,fs,ex,Y,l,q⟩:=i;subst ex;obtain rfl:u=Value.ref a:=U;refine my z Y c n l ?_;refine l_ (first:=[.ref a]) (h₀:=X.base) I.ok.mod.kin n.kp (bY (M pos y O σ T _ z q) fun us s2 ⟨vs,H2,B,r,q2⟩=>⟨B.kIn,?_⟩) d g
 exact yy (us:=.ref a::us) (vs:=.ref a::vs) F G J L hx B (.cons rfl r) q2
theorem C0{i:Sem Bool}(r:PE X o ta)(c:xV X.K C)(j:DR X.K C m f)(F:ig X.prog X.w X.K X.mg X.base CX k f fd ps sp)(v:cV k X.A)(y:Binds X.K fd ps ds)(z:aP dvs ds)(hx:mG CX X E)
  (B:eval (.Call (.Attribute o m J4) [] [] pos) X.env=(do
   let n <- eval o X.env
   mY J4.atName
   let(f,first) <- i7 [n] (mV n m i)
   l9 pos f first (backTo pos (aq [] X.env)) (iY pos (iX [] X.env))):=by rfl) :
  PE X (.Call (.Attribute o m J4) [] [] pos) (fZ C m sp dvs E ta cv):=by
 intro D s σ H Q I h;refine PySem.W.methodCall_KW (pl:=i) (bY (r D s σ H _ I h) fun u L d=>?_) B;obtain⟨x,M,g,G,a,N,fs,ex,J,l,q⟩:=d;subst ex;obtain rfl:u=Value.ref a:=G;refine my g J c j l ?_;exact PySem.W.callWith_K0 (first:=[.ref a]) g.kIn j.kp (yy (us:=[.ref a]) (vs:=[.ref a]) F v y z hx g (.cons rfl .nil) q)
structure Mk(K:Za)(C f:Addr):Prop where
 makes:pB K C=true
 init:aR K (.ref C) "__init__"=some (some (.ref f))
 fn:wm K (.ref f)=true
 kp:dh K (.ref C)=true
theorem Co{j:Zd}{σ:St}{H:Hp}{s:Shared}{Q:VK}{d:Zf}{l:List V}(M:Mk X.K C f)(F:ig X.prog X.w X.K X.mg X.base CX k f fd ps sp)(y:cV (k+1) X.A)(z:Binds X.K fd ps ds)(B:aP dvs ds)
  (hx:mG CX X E) (I:Inv X j σ H s) (r:aP l d)
  (h:∀x g,H x=none->H g=none->g≠x->sp (.ref x::(l++dvs)) (upd (upd H g (.own x)) x (.ins C g [])) (fun v D=>v=.non/\Q (.ref x) D) E) :
  wpAny (model X.prog X.w) X.A (call (.ref C) d) (EP X j σ Q) X.xe s:=by
 have n:=h (s.heap.objs.size+1) s.heap.objs.size (I.hok.fresh (iW _)) (I.hok.fresh (az _)) (bB (Nat.lt_succ_self _));have i:=Inv.made (C:=C) I;have q:aP (V.ref (s.heap.objs.size+1)::(l++dvs)) (Value.ref (s.heap.objs.size+1)::(d++ds)):=.cons rfl (r.append B);have G:(Value.ref (s.heap.objs.size+1)::d++ds).length=ps.length:=by
  have e:=q.length;rw[F.len _ _ _ _ n]at e;exact e.symm
 refine ju (xu (f:=f) I.kIn M.makes M.init (beq_iff_eq.mp M.fn) (ma (F.run _ X.stack _ _ ⟨Value.ref (s.heap.objs.size+1)::d,[]⟩ (Value.ref (s.heap.objs.size+1)::(d++ds)) _ _ E (y.make C d [])
  (i.env0.make C d []) (z _ (Value.ref (s.heap.objs.size+1)::d) i.kIn G) q n) fun r J a=>?_))
 cases r with
 |error e=>exact hx j σ _ _ e J i a
 |ok L =>
  cases L with
  |ret u =>
   obtain⟨v,N,O,T,U,Y⟩:=i.after a;subst U;exact⟨T,⟨V.ref (s.heap.objs.size+1),N,O,rfl,Y⟩⟩
  |next=>exact bx a
  |brk=>exact bx a
  |cont=>exact bx a
theorem EN(M:Mk X.K C f)(F:ig X.prog X.w X.K X.mg X.base CX k f fd ps sp)(i:cV (k+1) X.A)(j:Gl X x)(l:X.mg x=some (.ref C))(n:Binds X.K fd ps ds)(u:aP dvs ds)(hx:mG CX X E)
  (v:PA X (e::es) t) (a:(x==("__debug__":Str))=false:=by decide) (y:aq (e::es) X.env=(false,eval e X.env)::aq es X.env:=by rfl) (d:(backTo pos (aq es X.env)).any (·.1)=false:=by rfl) :
  PE X (.Call (.Name x p) (e::es) [] pos) (rJ C sp dvs E t):=by
 intro z s σ H Q I h;refine j_ (iG I j l ?_ a);refine l_ (h₀:=X.base) I.ok.mod.kin M.kp (bY (v pos z s σ H _ I h) fun B D ⟨G,J,g,r,q⟩=>⟨g.kIn,?_⟩) y d;exact Co M F i n u hx g r q
end
structure fo(N P:Zb)(sc:Scope):Prop where
 kind:sc.kind=.function
 co:sc.isCoroutine=false
 gen:sc.isGenerator=false
 nd:N.Nodup
 pre:N.take P.length=P
 par:∀x∈P,sc.names.lookup x=some .local∨sc.names.lookup x=some .cell
 nofree:∀y∈sc.names,y.2≠.free
theorem uA{kindOf:Str->Option fH}{x:Str}:∀{binds:List (Str×Value)}{m:Str->Option Value},(∀v,(x,v)∉binds)->bindL kindOf binds m x=m x
 |[],_,_=>rfl
 | (n,v)::r,m,h=>by
  unfold bindL;rw[uA fun w a=>h w (cO _ a)];split
  ·have:x≠n:=by rintro rfl;exact h v b_
   simp[this]
  ·rfl
theorem uC{kindOf:Str->Option fH}{x:Str}:∀{binds:List (Str×Value)}{m:Str->Option Value},(∀v,(x,v)∉binds)->bindC kindOf binds m x=m x
 |[],_,_=>rfl
 | (n,v)::r,m,h=>by
  unfold bindC;rw[uC fun w a=>h w (cO _ a)];split
  ·rfl
  ·have:x≠n:=by rintro rfl;exact h v b_
   simp[this]
theorem uB{kindOf:Str->Option fH}{x:Str}{v:Value}:∀{P:Zb}{a:Zf}{i:Nat}{m:Str->Option Value},P.Nodup->P[i]?=some x->a[i]?=some v->kindOf x=some .local ->
  bindL kindOf (P.zip a) m x=some v
 |[],_,_,_,_,h,_,_=>by simp at h
 |_::_,[],_,_,_,_,h,_=>by simp at h
 |p::P,w::a,0,m,f,d,e,g=>by
  simp at d e;subst d;subst e;show bindL kindOf ((p,w)::P.zip a) m p=_;unfold bindL;rw[uA fun v j=>(dC.mp f).1 (List.of_mem_zip j).1,if_pos g];simp
 |p::P,w::a,i+1,m,f,d,e,g=>by
  show bindL kindOf ((p,w)::P.zip a) m x=_;unfold bindL;exact uB (i:=i) (dC.mp f).2 (by simpa using d) (by simpa using e) g
theorem uD{kindOf:Str->Option fH}{x:Str}{v:Value}:∀{P:Zb}{a:Zf}{i:Nat}{m:Str->Option Value},P.Nodup->P[i]?=some x->a[i]?=some v->kindOf x≠some .local ->
  bindC kindOf (P.zip a) m x=some v
 |[],_,_,_,_,h,_,_=>by simp at h
 |_::_,[],_,_,_,_,h,_=>by simp at h
 |p::P,w::a,0,m,f,d,e,g=>by
  simp at d e;subst d;subst e;show bindC kindOf ((p,w)::P.zip a) m p=_;unfold bindC;rw[uC fun v j=>(dC.mp f).1 (List.of_mem_zip j).1,if_neg g];simp
 |p::P,w::a,i+1,m,f,d,e,g=>by
  show bindC kindOf ((p,w)::P.zip a) m x=_;unfold bindC;exact uD (i:=i) (dC.mp f).2 (by simpa using d) (by simpa using e) g
def start(N:Zb)(vs:List V):St:=vs.map some++vg (N.length-vs.length) none
def tG(CX:BX)(P:aU)(w:World)(K:Za)(mg:Str->Option Value)(base:Heap)(N:Zb)(qual:Str)(scope:Scope)(f:Addr)(cd:Value)(A:Around)(outer:List Env)(s:Shared)(H:Hp)(E:XK):Cx where
 prog:=P
 w:=w
 K:=K
 mg:=mg
 base:=base
 A:=A.deeper (envOfC qual scope s.heap.objs.size f cd)
 N:=N
 s₀:=s
 H₀:=H
 env:=envOfC qual scope s.heap.objs.size f cd
 outer:=outer
 stack:=envOfC qual scope s.heap.objs.size f cd::outer
 ex:=[]
 calm:=true
 fn:=fun _=>true
 pn:=[]
 xe:=fun e s'=>wpAny (model P w) (A.deeper (envOfC qual scope s.heap.objs.size f cd)) (leaving (envOfC qual scope s.heap.objs.size f cd) e) (fun _ s''=>CX outer H s E e s'') (fun e' s''=>CX outer H s E e' s'') s'
theorem xN{a:Scope}{n:Nat}{x:Str}(h:a.names.lookup x=some .cell):∃c,(cellsFrom n a.names []).lookup x=some c:=by
 have q:=PySem.W.cellsFrom_some a.names n [] (.inl h);exact rA.mp q
theorem BE{I:BX}{P:aU}{w:World}{K:Za}{D:Str->Option Value}{base:Heap}{N l:Zb}{d:Str}{scope:Scope}{f:Addr}{cd:Value}{A:Around}{outer:List Env}{s J:Shared}{H:Hp}{E:XK}{G:Zf}{m:List V}
  (S:fo N l scope) (O:A.handled=none) (j:zN P w K D base A outer s H) (Y:m.length=l.length) (r:aP m G)
  (x:InCallC s s.heap.objs.size (bindL (envOfC d scope s.heap.objs.size f cd).kindOf (l.zip G) fun _=>none) (cellsFrom (s.heap.objs.size+1) scope.names []) (bindC (envOfC d scope s.heap.objs.size f cd).kindOf (l.zip G) fun _=>none) J) :
  Inv (tG I P w K D base N d scope f cd A outer s H E) [] (start N m) H J:=by
 have Q:l.length<=N.length:=by have:=congrArg List.length S.pre;rw[bf]at this;omega
 obtain⟨C,tk,rfl,L⟩:=x.done;have o:∀b:Addr,b∉(tG I P w K D base N d scope f cd A outer s H E).ex:=fun b z=>absurd (show b∈([]:Ze)from z) (by simp);refine⟨⟨j.mod,S.kind,rfl,rfl,az _,fun y z c C g=>?_,fun y hy=>?_,fun y c _ h=>?_,fun _=>O,Around.frames_deeper j.frames,.inr ⟨rfl,rfl⟩,fun b z=>absurd z (o b),j.bs,j.bsz,fun b _ _=>o b,fun b z=>absurd z (o b),j.funs,j.frf⟩,
  rfl,j.bare,Un.kept L,⟨_,x.toInCall.ns,fun i y v C g h3=>?_⟩,fun y c h=>⟨_,x.cell y c h⟩,j.hok.fresh (az _),fun y c h=>?_,fun p t=>absurd (show p∈([]:Zd)from t) (by simp),j.hok.kept L,?_⟩
 ·exact name_of_addr x.apart (rq C) (rq g)
 ·have hy:scope.names.lookup y=some .cell∨scope.names.lookup y=some .free:=hy;rcases hy with hy|hy
  ·exact xN hy
  ·exact absurd rfl (S.nofree _ (rq hy))
 ·exact dB (x.above y c (rq h))
 ·have hi:i<m.length:=by
   unfold start at g;by_cases hi:i<m.length
   ·exact hi
   ·rw[oJ (by simpa using hi)]at g;rw[List.getElem?_replicate]at g;split at g<;>cases g
  have T:m[i]?=some v:=by
   unfold start at g;rw[oI (by simpa using hi),cX]at g;cases e:m[i]? with
   |none=>rw[e]at g;cases g
   |some a=>rw[e]at g;cases g;rfl
  obtain⟨u,M,U⟩:=r.get T;have t:l[i]?=some y:=by
   rw[<-S.pre,List.getElem?_take_of_lt (by omega)];exact C
  have B:l.Nodup:=by rw[<-S.pre];exact S.nd.sublist (List.take_sublist _ _)
  refine⟨u,U,?_⟩;rcases S.par y (gp t)with k|k
  ·exact .inl ⟨k,uB B t M k⟩
  ·obtain⟨c,e⟩:=xN (n:=s.heap.objs.size+1) k;refine .inr ⟨.inl k,c,e,?_⟩;have q:=x.cell y c e;rw[uD B t M (by show scope.names.lookup y≠_;rw[k];decide)]at q;exact q
 ·exact j.hok.fresh (dB (x.above y c (rq h)))
 ·unfold start;show _=N.length;rw[aL,ao,List.length_replicate];omega
theorem FK{C:BX}{P:aU}{w:World}{K:Za}{D:Str->Option Value}{base:Heap}{k:Nat}{f:Addr}{name a:Str}{params:Arguments}{g:List Stmt}{scope:Scope}{dV kV doc pm d ct oc:Value}{an od:Option Addr}
  {G:Array (Option Value)}{N ps:Zb}{L:Sp}(lk:K.lookup f=some ⟨oc,od,.func (hU name a params g scope dV kV doc pm an d ct),G⟩) (M:lZ K d a=true) (S:fo N ps scope)
  (len:∀h H Q E,L h H Q E->h.length=ps.length)
  (i:∀(A:Around) (outer:List Env) (s:Shared) (H:Hp) (h:List V) (Q:VK) (E:XK),cV k (A.deeper (envOfC a scope s.heap.objs.size f d))->L h H Q E ->
   ∃t,uE (tG C P w K D base N a scope f d A outer s H E) g t/\t (bJ Q) (start N h) H) :
  ig P w K D base C (k+1) f (hU name a params g scope dV kV doc pm an d ct) ps L:=by
 refine⟨len,fun A outer s H args us h Q E O p hb r z=>?_⟩;have hl:=len _ _ _ _ z;have KX:K.In s.heap:=p.mod.kin.keeps fun b o e=>(p.bs b o e).1;have T:s.heap.NoLimit:=p.mod.nolimit.keeps fun b o e=>(p.bs b o e).1;have j:∀y∈ps.zip us,scope.names.lookup y.1=some .local∨(scope.names.lookup y.1=some .cell/\((cellsFrom (s.heap.objs.size+1) scope.names []).lookup y.1).isSome=true):=fun⟨n,v⟩ hy=>by
  rcases S.par n (List.of_mem_zip hy).1 with q|q
  ·exact .inl q
  ·exact .inr ⟨q,PySem.W.cellsFrom_some _ _ _ (.inl q)⟩
 refine codeAny_call_function O.depth (KX _ _ lk) rfl S.co S.gen rfl (PySem.W.codeRec_of KX M) (hb _ _ _ _ ?_);refine wpAny_newFunctionEnv_cells S.kind j fun ab he s1 x=>?_;subst he;refine⟨T.keeps x.toInCall.keep,codeAny_func ?_⟩;obtain⟨t,ht,hq⟩:=i A outer s H h Q E (O.deeper _) z;have I:Inv (tG C P w K D base N a scope f d A outer s H E) [] (start N h) H s1:=BE S O.hd p hl r x;refine bV (ht [] s1 (start N h) H _ I hq) (fun fl U l=>?_) fun e U l=>l;have B:∀{σ':St}{m:Hp}{v:V}{u:Value},Inv (tG C P w K D base N a scope f d A outer s H E) [] σ' m U->RelV v u->Q v m->CE outer P w K H s Q u U :=
  fun{σ' m v u} J Y q=>⟨v,m,J.os,J.bare,J.base,J.hok,Y,q⟩
 cases fl with
 |ret u =>
  obtain⟨v,σ',m,J,Y,q⟩:=l;exact B J Y q
 |next =>
  obtain⟨σ',m,J,q⟩:=l;exact B (v:=V.non) (u:=Value.none) J rfl q
 |brk =>
  obtain⟨_,_,_,q⟩:=l;exact bx q
 |cont =>
  obtain⟨_,_,_,q⟩:=l;exact bx q
end L2
namespace L2
open PySem PySem.Spec PyProof.Rows
section
variable{X:Cx}{x:Str}{p pos:Pos}{e:Expr}{es:List Expr}{t:TA}{id T:String}{r:List V->Hp->VK->Prop}
def db(r:List V->Hp->VK->Prop)(t:TA):TE:=fun σ H Q=>t σ H fun vs H1=>r vs H1 Q
theorem wZ(g:fq X (.builtin id) r)(i:Gl X x)(j:X.mg x=none)(k:gZ x=some (.builtin id))(l:PA X (e::es) t)(m:x≠"__name__":=by decide)(a:(x==("__debug__":Str))=false:=by decide)
  (n:aq (e::es) X.env=(false,eval e X.env)::aq es X.env:=by rfl) (d:(backTo pos (aq es X.env)).any (·.1)=false:=by rfl):PE X (.Call (.Name x p) (e::es) [] pos) (db r t):=by
 intro f s σ H Q I h;refine j_ (jE I i j k ?_ m a);exact PyProof.Rows.callWith_builtin1 (bY (l pos f s σ H _ I h) fun o q ⟨u,v,w,y,z⟩=>g f q σ v u o Q w y z) n d
theorem jh(g:fq X (.type T) r)(i:Gl X x)(j:X.mg x=none)(k:gZ x=some (.type T))(l:PA X (e::es) t)(m:x≠"__name__":=by decide)(a:(x==("__debug__":Str))=false:=by decide)
  (n:aq (e::es) X.env=(false,eval e X.env)::aq es X.env:=by rfl) (d:(backTo pos (aq es X.env)).any (·.1)=false:=by rfl):PE X (.Call (.Name x p) (e::es) [] pos) (db r t):=by
 intro f s σ H Q I h;refine j_ (jE I i j k ?_ m a);exact tM (bY (l pos f s σ H _ I h) fun o q ⟨u,v,w,y,z⟩=>g f q σ v u o Q w y z) n d
end
end L2
namespace HT
open PySem PyProof.Rows
section
variable{prog:aU}{w:World}{A:Around}{E:Zc}{s:Shared}
def sIx(n d:Nat):Option Int->Nat
 |none=>d
 |some v=>if v<0 then(v+(n:Int)).toNat else min v.toNat n
theorem sIx_none(n d:Nat):sIx n d none=d:=rfl
theorem sIx_nat(n d k:Nat):sIx n d (some (k:Int))=min k n:=by
 show(if(k:Int)<0 then((k:Int)+(n:Int)).toNat else min (k:Int).toNat n)=min k n
 rw[if_neg (by omega),eW]
theorem sIx_le(n d:Nat)(e:d<=n)(o:Option Int):sIx n d o<=n:=by
 cases o with
 |none=>exact e
 |some v =>
  show(if v<0 then(v+(n:Int)).toNat else min v.toNat n)<=n
  by_cases a:v<0
  ·rw[if_pos a];omega
  ·rw[if_neg a];exact Nat.min_le_right _ _
theorem clip_eq(v:Int)(n d:Nat):(if v<0 then max (v+(n:Int)) 0 else min v (n:Int))=((sIx n d (some v):Nat):Int):=by
 show(if v<0 then max (v+(n:Int)) 0 else min v (n:Int))=(((if v<0 then(v+(n:Int)).toNat else min v.toNat n):Nat):Int)
 by_cases a:v<0
 ·simp only[if_pos a];omega
 ·simp only[if_neg a];omega
end
end HT
namespace L2
open PySem PySem.Spec PyProof.Rows
abbrev TO:=St->Hp->(Option Int->Hp->Prop)->Prop
def PO(X:Cx)(e:Option Expr)(t:TO):Prop :=
 ∀(J2:Zd) (s:Shared) (σ:St) (H:Hp) (Q:Option Int->Hp->Prop),Inv X J2 σ H s->t σ H Q ->
  wpAny (model X.prog X.w) X.A (evalPart e X.env) (fun u s'=>∃o H',Inv X J2 σ H' s'/\IsPart u o/\Q o H') X.xe s
def gH:TO:=fun _ H Q=>Q none H
def kf(t:TE):TO:=fun σ H Q=>t σ H fun x H1=>∃i,x=.int i/\Q (some i) H1
section
variable{X:Cx}{e:Expr}{te:TE}{lo hi:Option Expr}{tl th:TO}{pos p2:Pos}
theorem iE:PO X none gH:=by
 intro a s σ H Q I h;rw[evalPart_none];exact ak ⟨none,H,I,.none,h⟩
theorem fV(h:PE X e te):PO X (some e) (kf te):=by
 intro d s σ H Q I f;rw[evalPart_some];refine bY (h d s σ H _ I f) fun u m a=>?_;obtain⟨x,g,j,k,l⟩:=a;obtain⟨i,rfl,q⟩:=l;obtain⟨t,rfl⟩:=k;exact⟨some i,g,j,.int i t,q⟩
def SlR(X:Cx)(r:V->Option Int->Option Int->Hp->VK->Prop):Prop :=
 ∀(J2:Zd) (s:Shared) (σ:St) (H:Hp) (x:V) (v vl vu:Value) (lo hi:Option Int) (sl:Addr) (Q:VK),Inv X J2 σ H s->RelV x v->s.heap.IsSliceOf sl vl vu .none->IsPart vl lo->IsPart vu hi->r x lo hi H Q ->
  ∃T id,j9 (.type T) "__getitem__"=pure (some (.builtin id))/\s.TypeIs v T/\wpAny (model X.prog X.w) X.A (lY v (.ref sl)) (EP X J2 σ Q) X.xe s
def DV(r:V->Option Int->Option Int->Hp->VK->Prop)(te:TE)(tl th:TO):TE:=fun σ H Q=>te σ H fun x H1=>tl σ H1 fun l H2=>th σ H2 fun u H3=>r x l u H3 Q
theorem fj{r:V->Option Int->Option Int->Hp->VK->Prop}(k:SlR X r)(m:PE X e te)(n:PO X lo tl)(o:PO X hi th):PE X (.Subscript e (.Slice lo hi none p2) pos) (DV r te tl th):=by
 intro f s σ H Q I h;refine Subscript_ (bY (m f s σ H _ I h) fun v p d=>?_);obtain⟨x,t,y,z,B⟩:=d;refine wpAny_Slice (bY (n f p σ t _ y B) fun g C ⟨l,D,E,G,J⟩=>bY (o f C σ D _ E J) fun i a d=>?_);obtain⟨u,j,L,M,N⟩:=d;rw[evalPart_none];refine ak ?_;have O:Inv X f σ j { a with heap:=a.heap.push { cls:=.type "slice",data:=.fields #[g,i,.none] } }:=L.kept (t':=a.toks) fun b ob q=>aF _ q;obtain⟨T,id,U,Y,hg⟩:=k f { a with heap:=a.heap.push { cls:=.type "slice",data:=.fields #[g,i,.none] } } σ j x v g i l u a.heap.objs.size Q O z (Heap.IsSliceOf.new ..) G M N;show wpAny (model X.prog X.w) X.A (subscriptTail e (.Slice lo hi none p2) v (.ref a.heap.objs.size)) (EP X f σ Q) X.xe { a with heap:=a.heap.push { cls:=.type "slice",data:=.fields #[g,i,.none] } };exact tail_any (ops:=[.ref a.heap.objs.size,v]) Y U hg (by with_unfolding_all rfl)
def lE(xs:List V)(lo hi:Option Int):List V:=(xs.drop (HT.sIx xs.length 0 lo)).take (HT.sIx xs.length xs.length hi-HT.sIx xs.length 0 lo)
theorem xK(xs:List V)(lo hi:Option Int):(lE xs lo hi).length<=xs.length:=by
 unfold lE;rw[bf,jt];omega
end
end L2
namespace L2
open PySem PySem.Spec PyProof.Rows
def FJ(n:Nat)(i:Int):Option Nat:=if 0<=i then(if i<n then some i.toNat else none)else if -(n:Int)<=i then some (i+n).toNat else none
def xO{α:Type}(xs:List α)(i:Int):Option α:=(FJ xs.length i).bind fun j=>xs[j]?
theorem AJ{n:Nat}{i:Int}{j:Nat}(h:FJ n i=some j):seqIndex? i n=some j/\j<n/\-(n:Int)<=i/\i<n:=by
 unfold FJ at h;by_cases d:0<=i
 ·rw[if_pos d]at h;by_cases a:i<n
  ·rw[if_pos a]at h;have e:i.toNat=j:=eJ h;exact⟨by rw[seqIndex_of d a,e],by omega,by omega,a⟩
  ·rw[if_neg a]at h;cases h
 ·rw[if_neg d]at h;by_cases a:-(n:Int)<=i
  ·rw[if_pos a]at h;have e:(i+n).toNat=j:=eJ h;exact⟨by rw[seqIndex_neg (by omega) a,e],by omega,a,by omega⟩
  ·rw[if_neg a]at h;cases h
theorem v4{α:Type}{xs:List α}{i:Int}{v:α}(h:xO xs i=some v):∃j,seqIndex? i xs.length=some j/\xs[j]?=some v/\j<xs.length/\-(xs.length:Int)<=i/\i<xs.length:=by
 unfold xO at h;cases e:FJ xs.length i with
 |none=>rw[e]at h;cases h
 |some j =>
  rw[e]at h;obtain⟨a,d,f,g⟩:=AJ e;exact⟨j,a,h,d,f,g⟩
theorem cM{α:Type}{xs:List α}{j:Nat}{v:α}(h:xs[j]?=some v):xO xs (j:Int)=some v:=by
 have a:j<xs.length:=(gE.mp h).1;have e:FJ xs.length (j:Int)=some j:=by
  unfold FJ;rw[if_pos (by omega),if_pos (by omega)];simp
 unfold xO;rw[e];exact h
def Fj(b:Expr):Prop:=∀o i,vd b false o i=operate [o,i] (lY o i)
def Fm(X:Cx)(r:R2):Prop :=
 ∀(value slice:Expr) (J2:Zd) (s:Shared) (σ:St) (H:Hp) (x y:V) (v u:Value) (Q:VK),Inv X J2 σ H s->RelV x v->RelV y u->r x y H Q ->
  vd slice false v u=operate [v,u] (lY v u)->wpAny (model X.prog X.w) X.A (subscriptTail value slice v u) (EP X J2 σ Q) X.xe s
def MtR(X:Cx)(id:String)(r:V->List V->Hp->VK->Prop):Prop :=
 ∀(J2:Zd) (s:Shared) (σ:St) (H:Hp) (x:V) (xs:List V) (v:Value) (us:Zf) (Q:VK),Inv X J2 σ H s->RelV x v->aP xs us->r x xs H Q ->
  wpAny (model X.prog X.w) X.A (call (.builtin id) (v::us)) (EP X J2 σ Q) X.xe s
section
variable{X:Cx}{a b:Expr}{ta tb:TE}{pos:Pos}
theorem Fm.or{r d:R2}(h:Fm X r)(j:Fm X d):Fm X (fun x y H Q=>r x y H Q∨d x y H Q):=by
 intro value slice e s σ H x y v u Q I f g q i;rcases q with q|q
 ·exact h value slice e s σ H x y v u Q I f g q i
 ·exact j value slice e s σ H x y v u Q I f g q i
theorem Av{r:R2}(d:Fm X r)(e:PE X a ta)(f:PE X b tb)(g:Fj b):PE X (.Subscript a b pos) (aJ r ta tb):=by
 intro i s σ H Q I h;exact Subscript_ (GH e f I h fun v u j x y k l m n q=>d a b i j σ k x y v u Q l m n q (g _ _))
def cR(K:Za):R2:=fun x y H Q=>∃p xs i v,x=.ref p/\y=.int i/\aH K H p xs/\xO xs i=some v/\Q v H
def EC(K:Za):R2:=fun x y H Q=>∃p xs i v,x=.ref p/\y=.int i/\cj K H p xs/\xO xs i=some v/\Q v H
def yF:R2:=fun x y H Q=>∃z i c,x=.str z/\y=.int i/\z.length<=aj/\xO z.cps.toList i=some c/\Q (.str ⟨#[c]⟩) H
theorem AI:Fm X (cR X.K):=by
 intro value slice m s σ H x y v u Q I B C h n;obtain⟨p,xs,i,z,rfl,rfl,D,E,q⟩:=h;cases B;obtain⟨t,rfl⟩:=C;obtain⟨f,r,g,O⟩:=I.list D;obtain⟨j,e,G,T,J,L⟩:=v4 E;obtain⟨w,o,k⟩:=r.get G;have M:=r.length;have U:=o9;have d:EP X m σ Q w s:=⟨z,H,I,k,q⟩;by_cases A:0<=i
 ·have l:i.toNat=j:=by
   rw[seqIndex_of A L]at e;exact eJ e
  exact item_listR g.isList A (by omega) (by rw[l];simpa using o) d n
 ·have l:(i+(f.toArray.size:Int)).toNat=j:=by
   rw[seqIndex_neg (by omega) J]at e;rw[bt,<-M];exact eJ e
  exact subscriptTail_builtinR (x:=w) g.isList.typeIs slot_list_getitem.lookup
   (wpAny_getItem_list_neg (Q:=fun r N=>r=w/\EP X m σ Q r N) g.isList (by omega) (by rw[bt]<;>omega) (by omega) (by rw[l];simpa using o) ⟨rfl,d⟩) n
theorem De:Fm X (EC X.K):=by
 intro value slice f s σ H x y v u Q I k l h m;obtain⟨p,xs,i,z,rfl,rfl,n,o,q⟩:=h;cases k;obtain⟨t,rfl⟩:=l;obtain⟨A,r,g,J⟩:=I.tuple n;obtain⟨j,B,C,L,M,N⟩:=v4 o;obtain⟨w,D,d⟩:=r.get C;have E:=r.length;have O:=o9;have e:EP X f σ Q w s:=⟨z,H,I,d,q⟩;exact subscriptTail_builtinR (x:=w) g.typeIs slot_tuple_getitem.lookup
  (getItem_tuple (j:=j) (Q:=fun r G=>r=w/\EP X f σ Q r G) g (by omega) (by omega) (by rw[bt,<-E];exact B) (by simpa using D) ⟨rfl,e⟩) m
theorem Df:Fm X yF:=by
 intro value slice w s σ H x y v u Q I e f h g;obtain⟨z,i,c,rfl,rfl,A,k,q⟩:=h;obtain⟨t,rfl⟩:=e;obtain⟨B,rfl⟩:=f;obtain⟨j,d,l,C,m,n⟩:=v4 k;have o:z.cps.toList.length=z.length:=by simp[Str.length]
 rw[o]at d m n;have D:=o9;exact tail_any (typeIs_str s z t) slot_str_getitem.lookup (getItem_str (c:=c) (by
  have p:decide (i < -(2 ^ 63:Int))=false:=zzr0 (by omega);have r:decide (i ≥ 2 ^ 63)=false:=zzr0 (by omega);rw[p,r,Bool.or_false]) (by rw[d];simpa using l) ⟨.str ⟨#[c]⟩,H,I.tok _,⟨_,rfl⟩,q⟩) g
def B0(K:Za):R2:=fun x y H Q=>cR K x y H Q∨EC K x y H Q∨yF x y H Q
theorem Gz:Fm X (B0 X.K):=AI.or (De.or Df)
theorem yS(d:Zf)(n j:Nat)(u:Value):eV (·.setIfInBounds j u) { cls:=.type "list",data:=.seq d.toArray n }={ cls:=.type "list",data:=.seq (d.set j u).toArray n }:=by
 simp[eV]
theorem Inv.lst{f:Zd}{σ:St}{H:Hp}{s:Shared}{p:Addr}{xs:List V}(I:Inv X f σ H s)(h:H p=some (.lst xs)):
  ∃(d:Zf) (n:Nat),aP xs d/\s.heap.get? p=some { cls:=.type "list",data:=.seq d.toArray n }/\xs.length<=aj:=by
 obtain⟨z,d,n,r,e⟩:=I.hok p _ h;exact⟨d,n,r,e,z⟩
theorem Inv.lstUpd{k:Zd}{σ:St}{H:Hp}{s:Shared}{p:Addr}{xs i:List V}{g d:Zf}{n j:Nat}{f:Obj->Obj}(I:Inv X k σ H s)(h:H p=some (.lst xs))
  (l:s.heap.get? p=some { cls:=.type "list",data:=.seq g.toArray n }) (hf:f { cls:=.type "list",data:=.seq g.toArray n }={ cls:=.type "list",data:=.seq d.toArray j }) (r:aP i d) (m:i.length<=aj) (t:Nat) :
  Inv X k σ (upd H p (.lst i)) { s with heap:=s.heap.update p f,toks:=t }:=by
 have e:(s.heap.update p f).get? p=some { cls:=.type "list",data:=.seq d.toArray j }:=by
  rw[eU f l (by rw[hf]<;>rfl),hf]
 refine I.write (x:=p) (e:=p) (by rw[h];trivial) (.inl rfl) (fun b u o q=>(fG _ _ (br o)).trans q) ⟨_,e⟩ ?_;exact⟨m,d,j,r,e⟩
def rR:V->V->V->Hp->(Hp->Prop)->Prop:=fun o i v H Q=>∃p xs k j,o=.ref p/\i=.int k/\H p=some (.lst xs)/\FJ xs.length k=some j/\Q (upd H p (.lst (xs.set j v)))
theorem ki:Hz X rR:=by
 intro A s σ H o i v J L u Q I B C D h;obtain⟨p,xs,k,j,rfl,rfl,m,E,q⟩:=h;cases B;obtain⟨t,rfl⟩:=C;obtain⟨d,n,r,f,G⟩:=I.lst m;obtain⟨e,M,w,x⟩:=AJ E;have g:=r.length;have N:=o9;have y:Inv X A σ (upd H p (.lst (xs.set j v))) { s with heap:=s.heap.update p (eV (·.setIfInBounds j u)) } :=
  I.lstUpd m f (yS d n j u) (r.set D j) (by rw[List.length_set];exact G) s.toks
 by_cases z:0<=k
 ·have l:k.toNat=j:=by
   rw[seqIndex_of z x]at e;exact eJ e
  exact PySem.W.ki_setAt f z (by omega) (by rw[bt,<-g];exact x) (by rw[l];exact⟨_,y,q⟩)
 ·have l:(k+(d.toArray.size:Int)).toNat=j:=by
   rw[seqIndex_neg (by omega) w]at e;rw[bt,<-g];exact eJ e
  exact PySem.W.ki_setBack f (by omega) (by rw[bt,<-g];exact w) (by omega) (by rw[l];exact⟨_,y,q⟩)
theorem vB(lo hi:Option Int)(n:Nat):(lX lo hi none n).1=((HT.sIx n 0 lo:Nat):Int)/\(lX lo hi none n).2.1=((HT.sIx n n hi:Nat):Int)/\(lX lo hi none n).2.2=1:=by
 refine⟨?_,?_,rfl⟩
 ·cases lo with
  |none=>simp[lX,HT.sIx]
  |some i =>
   simp only[lX,HT.sIx,Option.getD_none,show(1:Int) > 0 by decide,if_true];by_cases h:i<0
   ·simp only[h,if_true]<;>omega
   ·simp only[h,if_false]<;>omega
 ·cases hi with
  |none=>simp[lX,HT.sIx]
  |some i =>
   simp only[lX,HT.sIx,Option.getD_none,show(1:Int) > 0 by decide,if_true];by_cases h:i<0
   ·simp only[h,if_true]<;>omega
   ·simp only[h,if_false]<;>omega
theorem s_(d:Zf)(lo hi:Option Int):slicePick d.toArray lo hi none=((d.drop (HT.sIx d.length 0 lo)).take (HT.sIx d.length d.length hi-HT.sIx d.length 0 lo)).toArray:=by
 obtain⟨e,f,g⟩:=vB lo hi d.toArray.size;unfold slicePick;rw[e,f,g];simp only[sliceRange_one,pick_run,bt]<;>rfl
def Bi(K:Za):V->Option Int->Option Int->Hp->VK->Prop:=fun x lo hi H Q=>∃a xs,x=.ref a/\aH K H a xs/\∀p,H p=none->Q (.ref p) (upd H p (.lst (lE xs lo hi)))
theorem nA:SlR X (Bi X.K):=by
 intro m s σ H x v n p lo hi t Q I f g i j h;obtain⟨a,xs,rfl,hx,q⟩:=h;cases f;obtain⟨k,r,e,l⟩:=I.list hx;have d:=r.length;refine⟨"list",_,slot_list_getitem.lookup,e.isList.typeIs,?_⟩;refine wpAny_getItem_list_slice e.isList g i j .none (by simp) ?_ (by rw[bt]<;>omega);rw[s_,<-d];refine⟨.ref s.heap.objs.size,_,I.laid (t':=s.toks) (o:=.lst (lE xs lo hi)) (fun b u q=>aF _ q) (az _) ?_,rfl,q _ (I.hok.fresh (az _))⟩;exact⟨bN (xK xs lo hi) l,_,0,(r.drop (HT.sIx xs.length 0 lo)).take (HT.sIx xs.length xs.length hi-HT.sIx xs.length 0 lo),bF _ rfl⟩
theorem vZ:fq X (.builtin "len") (fun xs H Q=>∃p e,xs=[.ref p]/\(aH X.K H p e∨cj X.K H p e)/\Q (.int e.length) H):=by
 intro l s σ H xs m Q I r h;obtain⟨p,e,rfl,hq,q⟩:=h;obtain⟨u,rfl,j⟩:=vals1 r;cases j;have n:=o9;rcases hq with hq|hq
 ·obtain⟨f,g,i,k⟩:=I.list hq;have d:=g.length;exact Calls.call_len_list i.isList (by simp only[bt]<;>omega) ⟨.int e.length,H,I.tok _,⟨s.toks+1,by rw[bt,d]⟩,q⟩
 ·obtain⟨f,g,i,k⟩:=I.tuple hq;have d:=g.length;exact len_tuple i (by simp only[bt]<;>omega) ⟨.int e.length,H,I.tok _,⟨s.toks+1,by rw[bt,d]⟩,q⟩
theorem vY:fq X (.builtin "len") (fun xs H Q=>∃z,xs=[.str z]/\z.length<=aj/\Q (.int z.length) H):=by
 intro d s σ H xs e Q I r h;obtain⟨z,rfl,f,q⟩:=h;obtain⟨u,rfl,t,rfl⟩:=vals1 r;have g:=o9;exact len_str (by omega) ⟨.int z.length,H,I.tok _,⟨_,rfl⟩,q⟩
theorem fq.or{f:Value}{r d:List V->Hp->VK->Prop}(h:fq X f r)(j:fq X f d):fq X f (fun xs H Q=>r xs H Q∨d xs H Q):=by
 intro e s σ H xs g Q I i q;rcases q with q|q
 ·exact h e s σ H xs g Q I i q
 ·exact j e s σ H xs g Q I i q
theorem vX:fq X (.type "list") (fun xs H Q=>∃p g,xs=[.ref p]/\(aH X.K H p g∨cj X.K H p g)/\∀l,H l=none->Q (.ref l) (upd H l (.lst g))):=by
 intro B s σ H xs D Q I r h;obtain⟨p,g,rfl,hq,q⟩:=h;obtain⟨u,rfl,C⟩:=vals1 r;cases C;have k:∀(d:Zf),aP g d->g.length<=aj->∀(f:Heap) (i:Nat),(∀b A,s.heap.get? b=some A->f.get? b=some A) ->
   f.get? s.heap.objs.size=some { cls:=.type "list",dict:=none,data:=.seq d.toArray i,slots:=#[] }->EP X B σ Q (.ref s.heap.objs.size) { s with heap:=f }:=fun d j m f i kp e =>
  ⟨.ref s.heap.objs.size,_,I.laid (t':=s.toks) kp (az _) (show aZ X.prog X.w X.K _ f _ (.lst g)from⟨m,d,i,j,e⟩),rfl,q _ (I.hok.fresh (az _))⟩
 rcases hq with hq|hq
 ·obtain⟨d,j,v,m⟩:=I.list hq;have t:=j.length;obtain⟨o,x,y,n,z⟩:=v.isList;exact call_list_seq p (.inl rfl) x y z (fun f i kp e=>k d j m f i kp e) (by simp only[bt]<;>omega)
 ·obtain⟨d,j,v,m⟩:=I.tuple hq;have t:=j.length;obtain⟨o,x,y,n,z⟩:=v;exact call_list_seq p (.inr rfl) x y z (fun f i kp e=>k d j m f i kp e) (by simp only[bt]<;>omega)
theorem lN:fq X (.type "tuple") (fun xs H Q=>∃p f,xs=[.ref p]/\((aH X.K H p f/\∀l,H l=none->Q (.ref l) (upd H l (.tup f)))∨(cj X.K H p f/\Q (.ref p) H))):=by
 intro m s σ H xs z Q I r h;obtain⟨p,f,rfl,h⟩:=h;obtain⟨u,rfl,x⟩:=vals1 r;cases x;rcases h with⟨i,q⟩|⟨i,q⟩
 ·obtain⟨d,j,k,n⟩:=I.list i;have t:=j.length;refine call_tuple_list k.isList (fun g kp=>?_) (by simp only[bt]<;>omega);have v:Inv X m σ H { s with heap:=g }:=I.kept (t':=s.toks) kp;have y:Inv X m σ (upd H g.objs.size (.tup f)) { s with heap:=g.push { cls:=.type "tuple",data:=.seq d.toArray } } :=
   v.laid (t':=s.toks) (fun b o e=>aF _ e) (az _) (show aZ X.prog X.w X.K _ _ _ (.tup f)from⟨n,d,j,IsTup.new _ _⟩)
  exact⟨.ref g.objs.size,_,y,rfl,q _ (v.hok.fresh (az _))⟩
 ·obtain⟨d,j,k,n⟩:=I.tuple i;exact call_tuple_same k ⟨.ref p,H,I,rfl,q⟩
def tyV(K:Za)(T:String)(x:V)(H:Hp):Prop:=match x with
 |.str _=>T="str"
 |.int _=>T="int"
 |.ref p=>(T="list"/\∃xs,aH K H p xs)∨(T="tuple"/\∃o,K.lookup p=some o/\o.cls=.type "tuple"/\o.dict=none) ∨
   (T="dict"/\((∃kvs,H p=some (.dK kvs))∨∃kvs,H p=some (.dT kvs)))∨(T="set"/\∃S n,H p=some (.set S n))
 |_=>False
theorem x9{l:Zd}{σ:St}{H:Hp}{s:Shared}{T:String}{x:V}{v:Value}(I:Inv X l σ H s)(r:RelV x v)(ty:tyV X.K T x H):
  s.TypeIs v T/\∀a,v=.ref a->∃j,s.heap.get? a=some j/\j.dict=none:=by
 cases x with
 |str z =>
  obtain⟨t,rfl⟩:=r;cases(show T="str" from ty);exact⟨typeIs_str s z t,fun _ e=>nomatch e⟩
 |int i =>
  obtain⟨t,rfl⟩:=r;cases(show T="int" from ty);exact⟨typeIs_int s i t,fun _ e=>nomatch e⟩
 |ref p =>
  cases r;rcases ty with⟨rfl,xs,m⟩|⟨rfl,o,d,q,f⟩|⟨rfl,d⟩|⟨rfl,S,n,d⟩
  ·obtain⟨u,_,k,_⟩:=I.list m;refine⟨k.isList.typeIs,fun a e=>?_⟩;cases e;obtain⟨o,n,e,c,f,_⟩:=k;exact⟨o,e,f⟩
  ·refine⟨⟨o,I.kIn p o d,q⟩,fun a e=>?_⟩;cases e;exact⟨o,I.kIn _ o d,f⟩
  ·have z:∃o,s.heap.get? p=some o/\o.ExactDict:=by
    rcases d with⟨g,d⟩|⟨g,d⟩
    ·obtain⟨_,_,_,_,o,_,_,e,ex,_⟩:=I.hok p _ d;exact⟨o,e,ex⟩
    ·obtain⟨_,_,_,_,o,_,_,e,ex,_⟩:=I.hok p _ d;exact⟨o,e,ex⟩
   obtain⟨o,e,ex⟩:=z;refine⟨⟨o,e,ex.1⟩,fun a h=>?_⟩;cases h;exact⟨o,e,ex.2.1⟩
  ·obtain⟨o,_,_,_,e,ex,_⟩:=I.hok p _ d;refine⟨⟨o,e,ex.1⟩,fun a h=>?_⟩;cases h;exact⟨o,e,ex.2.1⟩
 |_=>exact bx ty
def Hb(K:Za)(T:String)(r:V->List V->Hp->VK->Prop)(to:TE):TE:=fun σ H Q=>to σ H fun x H1=>tyV K T x H1/\r x [] H1 Q
def xU(K:Za)(T:String)(r:V->List V->Hp->VK->Prop)(to:TE)(t:TA):TE:=fun σ H Q=>to σ H fun x H1=>tyV K T x H1/\t σ H1 fun xs H2=>r x xs H2 Q
variable{o e:Expr}{es:List Expr}{to:TE}{t:TA}{name:Str}{J4 J3:Pos}{T id:String}{r:V->List V->Hp->VK->Prop}
theorem Gq(n:PlainAttrs T)(g:Slot T name id)(i:typeOf (.builtin id)=pure (.type "method_descriptor"))(p:MtR X id r)(q:PE X o to)
  (d:jW o name X.env (eval o X.env)=eval o X.env:=by rfl) (f:(J4.endLine==J3.line)=true:=by rfl):PE X (.Call (.Attribute o name J4) [] [] J3) (Hb X.K T r to):=by
 intro k s σ H Q I h;refine rp d f (bY (q k s σ H _ I h) fun v u j=>?_);obtain⟨x,w,l,m,ty,y⟩:=j;obtain⟨z,A⟩:=x9 l m ty;exact⟨T,id,n,g,i,z,A,lW rfl (vc (p k u σ w x [] v [] Q l m .nil y))⟩
theorem ky(u:PlainAttrs T)(i:Slot T name id)(k:typeOf (.builtin id)=pure (.type "method_descriptor"))(w:MtR X id r)(y:PE X o to)(z:PA X (e::es) t)
  (f:jW o name X.env (eval o X.env)=eval o X.env:=by rfl)
  (j:((backTo J3 (aq (e::es) X.env)).all (fun x=>!x.1) && (iY J3 (iX [] X.env)).all (fun x=>x.1.isSome)
   && decide ((e::es).length+([]:List oH).length+(if([]:List oH).isEmpty then 0 else 1)<30))=true:=by rfl)
  (g:(J4.endLine==J3.line)=true:=by rfl) (A:aq (e::es) X.env=(false,eval e X.env)::aq es X.env:=by rfl) (d:(backTo J3 (aq es X.env)).any (·.1)=false:=by rfl) :
  PE X (.Call (.Attribute o name J4) (e::es) [] J3) (xU X.K T r to t):=by
 intro l s σ H Q I h;refine wpAny_Call_method_late f j g rfl (bY (y l s σ H _ I h) fun v B m=>?_);obtain⟨x,C,n,p,ty,D⟩:=m;obtain⟨E,G⟩:=x9 n p ty;refine⟨T,id,u,i,k,E,G,?_⟩;have q:=z J3 l B σ C _ n D;rw[A]at q ⊢;refine lW (by show(false || (backTo J3 (aq es X.env)).any (·.1))=false;rw[d]<;>rfl) (Calls.evalArgs_plain ?_);exact bY q fun J L ⟨M,N,O,U,Y⟩=>w l L σ N x M v J Q O p U Y
end
end L2
namespace L2
open PySem PySem.Spec PyProof.Rows
def G1(X:Cx)(id:String)(r:V->List V->Hp->VK->Prop):Prop :=
 ∀(J2:Zd) (s:Shared) (σ:St) (H:Hp) (x:V) (xs:List V) (v:Value) (us:Zf) (Q:VK),Inv X J2 σ H s->RelV x v->aP xs us->r x xs H Q ->
  wpAny (model X.prog X.w) X.A (call (.builtin id) (v::us)) (EP X J2 σ Q) X.xe s
theorem aP.one{x:V}{a:Zf}(h:aP [x] a):∃u,a=[u]/\RelV x u:=by
 cases h with
 |cons r t=>cases t;exact⟨_,rfl,r⟩
theorem aP.two{x y:V}{a:Zf}(h:aP [x,y] a):∃u v,a=[u,v]/\RelV x u/\RelV y v:=by
 cases h with
 |cons r t =>
  obtain⟨v,e,q⟩:=aP.one t;exact⟨_,v,by rw[e],r,q⟩
theorem aP.zero:∀{a:Zf},aP [] a->a=[]
 |_,.nil=>rfl
theorem aP.dropLast{xs:List V}{a:Zf}(h:aP xs a):aP xs.dropLast a.dropLast:=by
 induction h with
 |nil=>exact .nil
 |cons r t d =>
  cases t with
  |nil=>exact .nil
  |cons q e=>exact .cons r d
theorem zb{α:Type}(l:List α):l.eraseIdx (l.length-1)=l.dropLast:=by
 induction l with
 |nil=>rfl
 |cons a r d =>
  cases r with
  |nil=>rfl
  |cons b r =>
   have e:(a::b::r).length-1=((b::r).length-1)+1:=by
    have f:(a::b::r).length=r.length+2:=rfl;have g:(b::r).length=r.length+1:=rfl;omega
   rw[e,List.eraseIdx_cons_succ,d]
   all_goals rfl
section
variable{X:Cx}{J2:Zd}{σ:St}{H:Hp}{s:Shared}{l b:Addr}{xs ys zs:List V}
theorem Inv.lset{a its':Zf}{n:Nat}{f:Array Value->Array Value}{d:Nat}(I:Inv X J2 σ H s)(g:H l=some (.lst xs))
  (e:s.heap.get? l=some { cls:=.type "list",data:=.seq a.toArray n }) (hf:f a.toArray=its'.toArray) (h:aP ys its') (i:ys.length<=aj) :
  Inv X J2 σ (upd H l (.lst ys)) { s with heap:=s.heap.update l (eV f),toks:=d }:=by
 have q:=PySem.IsL.update e f;rw[hf]at q;refine I.write (x:=l) (e:=l) (by rw[g];exact trivial) (.inl rfl) (fun m u j k=>(fG s.heap (eV f) (br j)).trans k) ⟨_,q⟩ ?_;exact⟨i,its',_,h,q⟩
theorem Inv.lnew{a:Zf}{t':Nat}(I:Inv X J2 σ H s)(d:aP ys a)(e:ys.length<=aj):
  Inv X J2 σ (upd H s.heap.objs.size (.lst ys)) { s with heap:=s.heap.push { cls:=.type "list",data:=.seq a.toArray },toks:=t' } :=
 I.laid (fun _ _ q=>aF _ q) (az _) ⟨e,a,0,d,bF _ rfl⟩
theorem Inv.fresh(I:Inv X J2 σ H s):H s.heap.objs.size=none:=I.hok.fresh (az _)
theorem Inv.lstM(I:Inv X J2 σ H s)(d:H l=some (.lst xs)):xs.length<=aj/\∃(a:Zf) (n:Nat),aP xs a/\xs.length=a.length/\s.heap.get? l=some { cls:=.type "list",data:=.seq a.toArray n }:=by
 obtain⟨z,a,n,r,e⟩:=I.hok l _ d;exact⟨z,a,n,r,r.length,e⟩
theorem C3{n:Nat}(h:n<=aj):aS.List.listTooLong n=false:=by
 unfold aS.List.listTooLong;exact zzr0 (by omega)
end
section
variable{X:Cx}
def ee:V->List V->Hp->VK->Prop:=fun x vs H Q=>∃l xs y,x=.ref l/\vs=[y]/\H l=some (.lst xs)/\xs.length<aj/\Q .non (upd H l (.lst (xs++[y])))
theorem df:G1 X "list.append" ee:=by
 intro j s σ H x k v m Q I f g h;obtain⟨l,xs,y,rfl,rfl,d,o,q⟩:=h;cases f;obtain⟨u,rfl,i⟩:=g.one;obtain⟨z,a,n,r,p,e⟩:=I.lstM d;refine vb F.slot_list_append ⟨_,e,rfl⟩ F.entry_list_append (F.args_list_append_2 _ _) (PySem.list_append l a.toArray n u (by rw[bt];omega)) ⟨e,?_⟩;refine⟨.non,_,I.lset (its':=a++[u]) d e (by simp) (r.append (.cons i .nil)) ?_,rfl,q⟩;rw[aL,List.length_singleton];omega
def An:V->List V->Hp->VK->Prop:=fun x vs H Q=>∃l b xs zs,x=.ref l/\vs=[.ref b]/\H l=some (.lst xs)/\H b=some (.lst zs)/\xs.length+zs.length<=aj/\Q .non (upd H l (.lst (xs++zs)))
theorem Bt:G1 X "list.extend" An:=by
 intro A s σ H x B v C Q I j k h;obtain⟨l,b,xs,D,rfl,rfl,i,m,E,q⟩:=h;cases j;obtain⟨u,rfl,o⟩:=k.one;cases o;obtain⟨z,d,n,r,G,e⟩:=I.lstM i;obtain⟨J,a,p,t,w,y⟩:=I.lstM m;have g:d.toArray.size+a.toArray.size<=aj:=by rw[bt,bt];omega
 have f:¬(!d.toArray.isEmpty && aS.List.listTooLong (d.toArray.size+a.toArray.size))=true:=by
  rw[C3 g,va];exact fX
 refine vb F.slot_list_extend ⟨_,e,rfl⟩ F.entry_list_extend (F.args_list_extend_2 _ _)
  (AutoSeq1.list_extend_list_list_0 l d.toArray n b a.toArray p f (by rw[bt];omega) (by omega)) ⟨e,y,?_⟩
 refine⟨.non,_,I.lset (its':=d++a) i e (by simp) (r.append t) ?_,rfl,q⟩;rw[aL];omega
def Hf:V->List V->Hp->VK->Prop:=fun x vs H Q=>∃l xs y,x=.ref l/\vs=[]/\H l=some (.lst xs)/\xs[xs.length-1]?=some y/\Q y (upd H l (.lst xs.dropLast))
theorem Gv:G1 X "list.pop" Hf:=by
 intro t s σ H x w v A Q I i j h;obtain⟨l,xs,y,rfl,rfl,g,k,q⟩:=h;cases i;have d:=j.zero;subst d;obtain⟨z,a,n,r,m,e⟩:=I.lstM g;obtain⟨u,o,p⟩:=r.get k;have f:a.toArray[a.toArray.size-1]?=some u:=by
  show a.toArray[a.length-1]?=some u;rw[<-Array.getElem?_toList,<-m];exact o
 refine vb F.slot_list_pop ⟨_,e,rfl⟩ F.entry_list_pop (F.args_list_pop_1 _) (MeetsSeq.list_pop_last l a.toArray n u f (by rw[bt];omega)) ⟨e,?_⟩;refine⟨y,_,I.lset (its':=a.dropLast) g e ?_ r.dropLast ?_,p,q⟩
 ·show a.toArray.eraseIdxIfInBounds (a.toArray.size-1)=a.dropLast.toArray;rw[bt,List.eraseIdxIfInBounds_toArray,zb]
 ·rw[List.length_dropLast];omega
def yG:R2:=fun x y H Q=>∃l b xs zs,x=.ref l/\y=.ref b/\H l=some (.lst xs)/\H b=some (.lst zs)/\xs.length+zs.length<=aj/\∀p,H p=none->Q (.ref p) (upd H p (.lst (xs++zs)))
theorem o6:n6 X (pC .Add) yG:=by
 intro t s σ H x y v u Q I f g h;obtain⟨l,b,xs,w,rfl,rfl,i,j,A,q⟩:=h;cases f;cases g;obtain⟨z,d,n,r,B,e⟩:=I.lstM i;obtain⟨C,a,D,k,m,o⟩:=I.lstM j;refine PySem.P.add_list e o ?_ (by rw[bt,bt];omega);have p:d.toArray++a.toArray=(d++a).toArray:=by simp
 rw[p];exact⟨.ref _,_,I.lnew (t':=s.toks) (r.append k) (by rw[aL];omega),rfl,q _ I.fresh⟩
end
end L2
namespace L2
open PySem PySem.Spec PyProof.Rows
section
variable{κ:Type}[DecidableEq κ]
def bL(kvs:List (κ×V))(k:κ):Option V:=(kvs.find? fun kv=>decide (kv.1=k)).map (·.2)
def dI(kvs:List (κ×V))(k:κ)(v:V):List (κ×V) :=
 if(kvs.any fun kv=>decide (kv.1=k))=true then kvs.map (fun kv=>if kv.1=k then(kv.1,v)else kv)else kvs++[(k,v)]
theorem cu{p:κ×V}{r:List (κ×V)}{k:κ}(e:p.1=k):bL (p::r) k=some p.2:=by simp[bL,oG,e]
theorem cc{p:κ×V}{r:List (κ×V)}{k:κ}(e:¬p.1=k):bL (p::r) k=bL r k:=by simp[bL,oG,e]
theorem i_(k:κ):∀a:List (κ×V),(a.any fun d=>decide (d.1=k))=(bL a k).isSome
 |[]=>rfl
 |p::r=>by
  rw[u_];by_cases e:p.1=k
  ·simp only[cu e,zzr1 e,Bool.true_or,Option.isSome_some]
  ·rw[cc e,zzr0 e,Bool.false_or];exact i_ k r
theorem wx(k j:κ)(y:V):∀a:List (κ×V),bL (a.map fun d=>if d.1=k then(d.1,y)else d) j=(bL a j).map fun x=>if j=k then y else x
 |[]=>rfl
 |p::r=>by
  have f:=wx k j y r;rw[bg];by_cases h:p.1=k
  ·rw[if_pos h];by_cases e:p.1=j
   ·rw[cu (p:=(p.1,y)) e,cu e,rn,if_pos (e.symm.trans h)]
   ·rw[cc (p:=(p.1,y)) e,cc e,f]
  ·rw[if_neg h];by_cases e:p.1=j
   ·rw[cu (p:=p) e,cu e,rn,if_neg (fun z=>h (e.trans z))]
   ·rw[cc (p:=p) e,cc e,f]
theorem tU(k j:κ)(y:V):∀a:List (κ×V),bL a k=none->bL (a++[(k,y)]) j=if j=k then some y else bL a j
 |[],_=>by
  by_cases e:k=j
  ·rw[if_pos e.symm];exact cu (p:=(k,y)) e
  ·rw[if_neg (fun z=>e z.symm)];exact cc (p:=(k,y)) e
 |p::r,d=>by
  rw[List.cons_append];have f:¬p.1=k:=fun z=>by rw[cu z]at d;cases d
  rw[cc f]at d;have g:=tU k j y r d;by_cases e:p.1=j
  ·rw[cu e,cu e,if_neg (fun z=>f (e.trans z))]
  ·rw[cc e,cc e,g]
theorem wv(d:List (κ×V))(k j:κ)(y:V):bL (dI d k y) j=if j=k then some y else bL d j:=by
 unfold dI;by_cases a:(d.any fun f=>decide (f.1=k))=true
 ·rw[if_pos a,wx];rw[i_]at a;by_cases e:j=k
  ·obtain⟨x,hx⟩:=rA.mp a;rw[if_pos e,e,hx,rn,if_pos rfl]
  ·rw[if_neg e];cases bL d j with
   |none=>rfl
   |some x=>rw[rn,if_neg e]
 ·rw[if_neg a];refine tU k j y d ?_;rw[i_]at a;cases q:bL d k with
  |none=>rfl
  |some x=>rw[q]at a;exact(a rfl).elim
theorem iF(a:List (κ×V))(k:κ)(v:V):(dI a k v).length<=a.length+1:=by
 unfold dI;split
 ·rw[ao];omega
 ·rw[aL,dj,rm];omega
theorem jg{a:List (κ×V)}{k:κ}(v:V)(h:bL a k=none):dI a k v=a++[(k,v)]:=by
 unfold dI;rw[i_,h];exact if_neg (by decide)
theorem jI.isSome_eq{o:Option V}{u:Option Value}(r:jI o u):o.isSome=u.isSome:=by
 cases o with
 |none=>cases u with
  |none=>rfl
  |some _=>exact(show False from r).elim
 |some _=>cases u with
  |none=>exact(show False from r).elim
  |some _=>rfl
theorem jI.getD{o:Option V}{u:Option Value}{d:V}{a:Value}(r:jI o u)(e:RelV d a):RelV (o.getD d) (u.getD a):=by
 cases o with
 |none=>cases u with
  |none=>exact e
  |some _=>exact(show False from r).elim
 |some _=>cases u with
  |none=>exact(show False from r).elim
  |some _=>exact r
theorem KV.val{a:List (κ×V)}{f:List (κ×Value)}(r:KV a f)(k:κ):jI (bL a k) (lV f k):=by
 unfold KV at r
 induction r with
 |nil=>exact fy
 |@cons p q l qs h t i =>
  obtain⟨g,j⟩:=h;by_cases e:p.1=k
  ·have d:q.1=k:=g.symm.trans e;have b:lV (q::qs) k=some q.2:=by simp[lV,oG,d]
   rw[cu e,b];exact j
  ·have d:¬q.1=k:=fun z=>e (g.trans z);have b:lV (q::qs) k=lV qs k:=by simp[lV,oG,d]
   rw[cc e,b];exact i
theorem KV.any{a:List (κ×V)}{e:List (κ×Value)}(r:KV a e)(k:κ):(a.any fun d=>decide (d.1=k))=e.any fun d=>decide (d.1=k):=by
 unfold KV at r
 induction r with
 |nil=>rfl
 |cons h t f=>rw[u_,u_,f,h.1]
theorem KV.repl{d:List (κ×V)}{g:List (κ×Value)}(r:KV d g)(k:κ){y:V}{u:Value}(i:RelV y u):
  KV (d.map fun a=>if a.1=k then(a.1,y)else a) (g.map fun a=>if a.1=k then(a.1,u)else a):=by
 unfold KV at r ⊢
 induction r with
 |nil=>exact .nil
 |@cons p q m qs h t j =>
  rw[bg,bg];refine .cons ?_ j;obtain⟨f,l⟩:=h;by_cases e:p.1=k
  ·rw[if_pos e,if_pos (f.symm.trans e)];exact⟨f,i⟩
  ·rw[if_neg e,if_neg (fun z=>e (f.trans z))];exact⟨f,l⟩
theorem KV.put{a:List (κ×V)}{d:List (κ×Value)}(r:KV a d)(k:κ){y:V}{u:Value}(f:RelV y u):KV (dI a k y) (stored d k u):=by
 unfold dI stored;rw[r.any k];by_cases e:(d.any fun g=>decide (g.1=k))=true
 ·rw[if_pos e,if_pos e];exact r.repl k f
 ·rw[if_neg e,if_neg e];exact iV r ⟨rfl,f⟩
theorem KV.length{a:List (κ×V)}{d:List (κ×Value)}(r:KV a d):a.length=d.length:=Paired.length r
end
theorem nN{P:aU}{w:World}{k:dg}{u:Value}(r:RelV (kV k) u):(bv P w).is k u=true:=by
 cases k with
 |inl i=>obtain⟨t,e⟩:=(show ∃t,u=Value.int i t from r);subst e;exact xh P w i t
 |inr x=>obtain⟨t,e⟩:=(show ∃t,u=Value.str x t from r);subst e;exact xf P w x t
theorem vR:∀{k:mN}{u:Value},RelV (FI k) u->ic k u=true
 |none,u,r=>by cases(show u=Value.none from r);rfl
 |some (.inl i),u,r=>by obtain⟨t,rfl⟩:=r;exact kW i t
 |some (.inr x),u,r=>by obtain⟨t,rfl⟩:=r;exact kU x t
abbrev KT(K:Za)(H:Hp):List (TK×V)->List (TK×Addr×Value)->Prop:=Paired fun p q=>p.1=q.1/\pd K H p.1 (.ref q.2.1)/\p.1.depth<=8/\RelV p.2 q.2.2
theorem KT.val{K:Za}{H:Hp}{a:List (TK×V)}{xs:List (TK×Addr×Value)}(r:KT K H a xs)(k:TK):jI (bL a k) ((atKey xs k).map (·.2)):=by
 induction r with
 |nil=>exact fy
 |@cons p q j qs h t g =>
  obtain⟨f,_,_,i⟩:=h;by_cases e:p.1=k
  ·have d:q.1=k:=f.symm.trans e;have b:atKey (q::qs) k=some q.2:=by simp[atKey,oG,d]
   rw[cu e,b];exact i
  ·have d:¬q.1=k:=fun z=>e (f.trans z);have b:atKey (q::qs) k=atKey qs k:=by simp[atKey,oG,d]
   rw[cc e,b];exact g
theorem KT.repl{K:Za}{H:Hp}{a:List (TK×V)}{xs:List (TK×Addr×Value)}(r:KT K H a xs)(k:TK){y:V}{u:Value}(j:RelV y u):
  KT K H (a.map fun f=>if f.1=k then(f.1,y)else f) (xs.map (putAt k u)):=by
 induction r with
 |nil=>exact .nil
 |@cons p q m qs h t l =>
  rw[bg,bg];refine .cons ?_ l;obtain⟨d,g,i⟩:=h;unfold putAt;by_cases e:p.1=k
  ·rw[if_pos e,if_pos (d.symm.trans e)];exact⟨d,g,i.1,j⟩
  ·rw[if_neg e,if_neg (fun z=>e (d.trans z))];exact⟨d,g,i⟩
theorem KT.put{K:Za}{H:Hp}{a:List (TK×V)}{xs:List (TK×Addr×Value)}(r:KT K H a xs)(k:TK){b:Addr}{y:V}{u:Value}(f:pd K H k (.ref b))(g:k.depth<=8)(d:RelV y u):
  KT K H (dI a k y) (storedH xs k b u):=by
 have e:(a.any fun h=>decide (h.1=k))=(atKey xs k).isSome:=by
  rw[i_,(r.val k).isSome_eq,Option.isSome_map]
 unfold dI storedH;rw[e];by_cases q:(atKey xs k).isSome=true
 ·rw[if_pos q,if_pos q];exact r.repl k d
 ·rw[if_neg q,if_neg q];exact iV r ⟨rfl,f,g,d⟩
theorem KT.keeps{K:Za}{H a:Hp}{kvs:List (TK×V)}{xs:List (TK×Addr×Value)}(r:KT K H kvs xs)(e:∀b d,H b=some (.tup d)->a b=some (.tup d)):KT K a kvs xs :=
 Paired.mapP r fun _ _ z=>⟨z.1,pd.keeps e 8 z.2.2.1 z.2.1,z.2.2⟩
section
variable{P:aU}{w:World}{K:Za}{H:Hp}{h:Heap}{a:Addr}
theorem Fy{u:HO}(ok:jp P w K H h)(e:Rd H a u):aZ P w K H h a u:=e.ok ok
theorem pN{d:List (dg×V)}(ok:jp P w K H h)(e:Rd H a (.dK d)):d.length<=aj/\(a==d4)=false/\∃f,KV d f/\h.DictOf (bv P w) a f :=
 show aZ P w K H h a (.dK d)from Fy ok e
theorem FM{d:List (dg×V)}(ok:jp P w K H h)(e:H a=some (.dK d)):d.length<=aj/\(a==d4)=false/\∃f,KV d f/\h.DictOf (bv P w) a f:=pN ok (.inl e)
theorem Gb(ok:jp P w K H h)(y:K.In h):∀(d:Nat) {k:TK}{v:V}{u:Value},k.depth<=d->pd K H k v->RelV v u->lF h k u:=by
 have z:∀(d:Nat) (s:∀{k:TK}{v:V}{u:Value},k.depth<=d->pd K H k v->RelV v u->lF h k u) (g:List TK) (i:List V) (x:Zf),TK.depths g<=d->TKCs K H g i->aP i x->TAts h g x:=by
  intro d s g
  induction g with
  |nil =>
   intro i x _ hx r;have e:i=[]:=hx;subst e;cases r
   rfl
  |cons k g A =>
   intro i x j hx r;obtain⟨v,B,rfl,m,C⟩:=hx;cases r with
   |@cons _ u _ q G I =>
    have J:max k.depth (TK.depths g)<=d:=j;exact⟨u,q,rfl,s (by omega) m G,A B q (by omega) C I⟩
 intro d
 induction d with
 |zero =>
  intro k v u j hx r;cases k with
  |t l=>exact absurd j (by show ¬(TK.depths l+1<=0);omega)
  |k b =>
   have e:v=FI b:=hx;subst e;exact vR r
 |succ d s =>
  intro k v u j hx r;cases k with
  |k b =>
   have e:v=FI b:=hx;subst e;exact vR r
  |t l =>
   obtain⟨b,xs,rfl,D,hi⟩:=hx;cases(show u=Value.ref b from r);obtain⟨f,E,L,m,C,n,M⟩:∃f:List Value,aP xs f/\IsTup h b f.toArray:=by
    rcases D with D|⟨o,f,n,N,O,Q,T,r⟩
    ·obtain⟨_,f,E,p⟩:=(show aZ P w K H h b (.tup xs)from ok b _ D);exact⟨f,E,p⟩
    ·exact⟨f.toList,r,o,y b o N,O,n,by simpa using Q⟩
   exact⟨b,L,f.toArray,n,rfl,m,C,M,by simpa using z d (fun m=>s m) l xs f (by have:TK.depths l+1<=d+1:=j;omega) hi E⟩
theorem vP{k:TK}(ok:jp P w K H h)(d:K.In h)(e:pd K H k (.ref a))(f:k.depth<=8):(d6 P w).is h k a:=⟨Gb ok d 8 f e rfl,f⟩
theorem sm{d:List (TK×V)}(ok:jp P w K H h)(g:K.In h)(e:Rd H a (.dT d)):d.length<=aj/\(a==d4)=false /\
  ∃xs,KT K H d xs/\h.DictOfH (d6 P w) a xs:=by
 obtain⟨z,y,xs,r,o,i,j,k,n,s,u,v⟩:=(show aZ P w K H h a (.dT d)from Fy ok e);refine⟨z,y,xs,r,o,i,j,k,n,s,u,fun x hx=>?_,v⟩;have all:∀{l:List (TK×V)}{m:List (TK×Addr×Value)},KT K H l m->∀x∈m,(d6 P w).is h x.1 x.2.1:=by
  intro l m q
  induction q with
  |nil=>intro x hx;exact nomatch hx
  |@cons p q B qs f t A =>
   intro x hx;rcases bA.mp hx with e|hx
   ·subst e;exact vP ok g (by rw[<-f.1];exact f.2.1) (by rw[<-f.1];exact f.2.2.1)
   ·exact A x hx
 exact all r x hx
theorem Dy{d:List (TK×V)}(ok:jp P w K H h)(f:K.In h)(e:H a=some (.dT d)):d.length<=aj/\(a==d4)=false /\
  ∃xs,KT K H d xs/\h.DictOfH (d6 P w) a xs:=sm ok f (.inl e)
end
mutual
def nZ(K:Za)(H:Hp):TK->V->Prop
 |.k a,v=>v=FI a
 |.t l,v=>∃b xs,v=.ref b/\cj K H b xs/\TKIns K H l xs
def TKIns(K:Za)(H:Hp):List TK->List V->Prop
 |[],vs=>vs=[]
 |k::r,vs=>∃v us,vs=v::us/\nZ K H k v/\TKIns K H r us
end
theorem fx.isIn{K:Za}{H:Hp}:∀(d:Nat) {k:TK}{v:V},k.depth<=d->fx H k v->nZ K H k v:=by
 have h:∀(d:Nat) (f:∀{k:TK}{v:V},k.depth<=d->fx H k v->nZ K H k v) (xs:List TK) (g:List V),TK.depths xs<=d->TKAts H xs g->TKIns K H xs g:=by
  intro d f xs
  induction xs with
  |nil=>intro g _ hx;exact hx
  |cons x xs i =>
   intro g e hx;obtain⟨v,n,rfl,j,m⟩:=hx;have o:max x.depth (TK.depths xs)<=d:=e;exact⟨v,n,rfl,f (by omega) j,i n (by omega) m⟩
 intro d
 induction d with
 |zero =>
  intro k v e hx;cases k with
  |t l=>exact absurd e (by show ¬(TK.depths l+1<=0);omega)
  |k a=>exact hx
 |succ d f =>
  intro k v e hx;cases k with
  |k a=>exact hx
  |t l =>
   obtain⟨b,xs,rfl,p,hi⟩:=hx;exact⟨b,xs,rfl,cj.of p,h d (fun q=>f q) l xs (by have:TK.depths l+1<=d+1:=e;omega) hi⟩
theorem Ei{X:Cx}{y:Zd}{σ:St}{H:Hp}{s:Shared}(I:Inv X y σ H s):∀(d:Nat) {k:TK}{v:V}{u:Value},k.depth<=d->nZ X.K H k v->RelV v u->lF s.heap k u:=by
 have p:∀(d:Nat) (m:∀{k:TK}{v:V}{u:Value},k.depth<=d->nZ X.K H k v->RelV v u->lF s.heap k u) (a:List TK) (f:List V) (o:Zf),TK.depths a<=d->TKIns X.K H a f->aP f o->TAts s.heap a o:=by
  intro d m a
  induction a with
  |nil =>
   intro f o _ hx r;have e:f=[]:=hx;subst e;cases r
   rfl
  |cons k a q =>
   intro f o g hx r;obtain⟨v,w,rfl,h,x⟩:=hx;cases r with
   |@cons _ u _ i z A =>
    have B:max k.depth (TK.depths a)<=d:=g;exact⟨u,i,rfl,m (by omega) h z,q w i (by omega) x A⟩
 intro d
 induction d with
 |zero =>
  intro k v u g hx r;cases k with
  |t l=>exact absurd g (by show ¬(TK.depths l+1<=0);omega)
  |k b =>
   have e:v=FI b:=hx;subst e;exact vR r
 |succ d m =>
  intro k v u g hx r;cases k with
  |k b =>
   have e:v=FI b:=hx;subst e;exact vR r
  |t l =>
   obtain⟨b,xs,rfl,C,hi⟩:=hx;cases(show u=Value.ref b from r);obtain⟨j,D,⟨E,h,x,n,G⟩,_⟩:=I.tuple C;exact⟨b,E,j.toArray,n,rfl,h,x,G,by simpa using p d (fun h=>m h) l xs j (by have:TK.depths l+1<=d+1:=g;omega) hi D⟩
theorem vQ{X:Cx}{d:Zd}{σ:St}{H:Hp}{s:Shared}{k:TK}{b:Addr}(I:Inv X d σ H s)(e:nZ X.K H k (.ref b))(a:k.depth<=8):(d6 X.prog X.w).is s.heap k b:=⟨Ei I 8 a e rfl,a⟩
theorem fJ{P:aU}{w:World}{A:Around}(a:A.units+16<cLine):(d6 P w).room A.in1:=by
 show A.units+1+8<cLine;omega
def qa(K:Za)(H:Hp)(a:Addr)(y:V)(r:Option V):Prop :=
 (∃kvs k,Rd H a (.dK kvs)/\y=kV k/\r=bL kvs k)∨∃kvs k b,Rd H a (.dT kvs)/\y=.ref b/\nZ K H k (.ref b)/\k.depth<=8/\r=bL kvs k
def HI(H:Hp)(a:Addr)(y v:V)(H':Hp):Prop :=
 (∃kvs k,H a=some (.dK kvs)/\y=kV k/\kvs.length<aj/\H'=upd H a (.dK (dI kvs k v))) ∨
 ∃kvs k b,H a=some (.dT kvs)/\y=.ref b/\fx H k (.ref b)/\k.depth<=8/\kvs.length<aj/\H'=upd H a (.dT (dI kvs k v))
section
variable{X:Cx}{J2:Zd}{σ:St}{H:Hp}{s:Shared}{a:Addr}{y v:V}{u r:Value}{o:Option V}{A:Around}{E:Zc}
theorem Inv.big(I:Inv X J2 σ H s):d4<s.heap.objs.size:=by
 have h:ba<s.heap.objs.size:=(I.mod.glob.keeps I.bk).lt;exact Nat.lt_trans (by decide) h
theorem BM{Q:Zc}(C:A.units+16<cLine)(I:Inv X J2 σ H s)(g:qa X.K H a y (some v))(x:RelV y u)(h:∀i B,Inv X J2 σ H B->RelV v i->Q i B):
  wpAny (model X.prog X.w) A (lY (.ref a) u) Q E s:=by
 rcases g with⟨j,k,e,m,l⟩|⟨j,k,b,e,m,D,G,l⟩
 ·subst m;obtain⟨z,J,L,d,n⟩:=pN I.hok e;obtain⟨i,q,f⟩:=jI.some_of (v:=v) (o:=lV L k) (by rw[l];exact d.val k);exact wpAny_getItem_of (nN x) n.mapOf q (h i _ (I.tok _) f)
 ·subst m;cases(show u=Value.ref b from x);obtain⟨z,J,xs,d,n⟩:=sm I.hok I.kIn e;obtain⟨i,q,f⟩:=jI.some_of (v:=v) (o:=(atKey xs k).map (·.2)) (by rw[l];exact d.val k);obtain⟨p,M,t⟩:=Option.map_eq_some_iff.mp q;refine wpAny_getItem_heap (fJ C) (vQ I D G) n M ?_;rw[t];exact h i _ (I.tok _) f
theorem d_in{Q:Zc}(p:A.units+16<cLine)(I:Inv X J2 σ H s)(g:qa X.K H a y o)(m:RelV y u)(h:∀n,Inv X J2 σ H n->Q (.bool o.isSome) n):
  wpAny (model X.prog X.w) A (dZ .In u (.ref a)) Q E s:=by
 rcases g with⟨f,k,e,i,l⟩|⟨f,k,b,e,i,t,x,l⟩
 ·subst i;obtain⟨z,hd,B,d,j⟩:=pN I.hok e;refine wpAny_in_of (nN m) hd j.mapOf ?_;rw[<-(d.val k).isSome_eq,<-l];exact h _ (I.tok _)
 ·subst i;cases(show u=Value.ref b from m);obtain⟨z,hd,xs,d,j⟩:=sm I.hok I.kIn e;refine wpAny_in_heap (fJ p) (vQ I t x) hd j ?_;have q:=(d.val k).isSome_eq;rw[Option.isSome_map]at q;rw[<-q,<-l];exact h _ (I.tok _)
theorem Fc{Q:Zc}(p:A.units+16<cLine)(I:Inv X J2 σ H s)(g:qa X.K H a y o)(m:RelV y u)(h:∀n,Inv X J2 σ H n->Q (.bool (!o.isSome)) n):
  wpAny (model X.prog X.w) A (dZ .NotIn u (.ref a)) Q E s:=by
 rcases g with⟨f,k,e,i,l⟩|⟨f,k,b,e,i,t,x,l⟩
 ·subst i;obtain⟨z,hd,B,d,j⟩:=pN I.hok e;refine wpAny_notIn_of (nN m) hd j.mapOf ?_;rw[<-(d.val k).isSome_eq,<-l];exact h _ (I.tok _)
 ·subst i;cases(show u=Value.ref b from m);obtain⟨z,hd,xs,d,j⟩:=sm I.hok I.kIn e;refine wpAny_notIn_heap (fJ p) (vQ I t x) hd j ?_;have q:=(d.val k).isSome_eq;rw[Option.isSome_map]at q;rw[<-q,<-l];exact h _ (I.tok _)
theorem nS{d:Heap}{f:Nat}{ob:HO}(I:Inv X J2 σ H s)(g:HC (H a))(h:dP a s.heap d)(i:∃q,d.get? a=some q)(new:aZ X.prog X.w X.K (upd H a ob) d a ob):
  Inv X J2 σ (upd H a ob) { s with heap:=d,toks:=f } :=
 I.write (x:=a) (e:=a) g (.inl rfl) (fun b q j z=>(h.2 b j).trans z) i new
theorem zc{P:aU}{w:World}{K:Za}{h:Hp}{g:Heap}{d:List (dg×V)}{e:List (dg×Value)}(z:d.length<=aj)(i:(a==d4)=false)(f:KV d e)(j:g.DictOf (bv P w) a e):
  aZ P w K h g a (.dK d):=⟨z,i,e,f,j⟩
theorem BL{G:Hp}{Q:Unit->Shared->Prop}(U:A.units+16<cLine)(I:Inv X J2 σ H s)(g:HI H a y v G)(J:RelV y u)(L:RelV v r)(h:∀M,Inv X J2 σ G M->Q () M):
  wpAny (model X.prog X.w) A (setItem (.ref a) u r) Q E s:=by
 rcases g with⟨d,k,e,n,l,p⟩|⟨d,k,b,e,n,N,j,l,p⟩
 ·subst n p;obtain⟨z,t,Y,f,x⟩:=FM I.hok e;have B:Y.length<=aj:=by rw[<-f.length];exact z
  have C:(dI d k v).length<=aj:=by have:=iF d k v;omega
  refine wpAny_setItem_pairs (hsz:=B) (nN J) x fun O i D=>h _ ?_;have he:∃q,O.get? a=some q:=let⟨q,_,_,m,_⟩:=i;⟨q,m⟩;exact nS I (by rw[e];exact fy) D he (zc C t (f.put k L) i)
 ·subst n p;cases(show u=Value.ref b from J);obtain⟨z,t,xs,f,x⟩:=Dy I.hok I.kIn e;have B:xs.length<=aj:=by rw[<-Paired.length f];exact z
  have C:(dI d k v).length<=aj:=by have:=iF d k v;omega
  refine wpAny_setItem_heap (hsz:=B) (fJ U) (vP I.hok I.kIn (fx.c 8 j N) j) x fun O i D=>h _ ?_;obtain⟨q,es,ep,m,h2,h3,h4,_,h5⟩:=i;refine nS I (by rw[e];exact fy) D ⟨q,m⟩ ⟨C,t,_,(f.put k (fx.c 8 j N) j L).keeps fun c ys T=>?_,q,es,ep,m,h2,h3,h4,h5⟩;rw[ah (C6 T e (fun z=>nomatch z))];exact T
theorem sr{b:Addr}{d:List (TK×V)}{k:TK}{Q:Unit->Shared->Prop}(t:A.units+16<cLine)(I:Inv X J2 σ H s)(e:H a=some (.dT d))(i:pd X.K H k (.ref b))(j:k.depth<=8)(l:d.length<aj)(x:RelV (.ref b) u)(B:RelV v r)(h:∀m,Inv X J2 σ (upd H a (.dT (dI d k v))) m->Q () m):
  wpAny (model X.prog X.w) A (setItem (.ref a) u r) Q E s:=by
 cases(show u=Value.ref b from x);obtain⟨z,C,xs,f,D⟩:=Dy I.hok I.kIn e;have G:xs.length<=aj:=by rw[<-Paired.length f];exact z
 have J:(dI d k v).length<=aj:=by have:=iF d k v;omega
 refine wpAny_setItem_heap (hsz:=G) (fJ t) (vP I.hok I.kIn (i) j) D fun h' g L=>h _ ?_;obtain⟨q,M,N,n,O,T,U,_,Y⟩:=g;refine nS I (by rw[e];exact fy) L ⟨q,n⟩ ⟨J,C,_,(f.put k (i) j B).keeps fun c ys p=>?_,q,M,N,n,O,T,U,Y⟩;rw[ah (C6 p e (fun z=>nomatch z))];exact p
end
def BU(i:Expr):Prop:=∀ov iv,vd i false ov iv=operate [ov,iv] (lY ov iv)
theorem Em{a:aU}{w:World}{A:Around}{E:Zc}{s:Shared}{j:Env}{value slice:Expr}{n:Pos}{T id:String}{Q:Zc}
  (q:j9 (.type T) "__getitem__"=pure (some (.builtin id))) (t:BU slice)
  (h:wpAny (model a w) A (eval value j) (fun o f=>wpAny (model a w) A (eval slice j) (fun i d=>d.TypeIs o T/\wpAny (model a w) A (lY o i) Q E d) E f) E s) :
  wpAny (model a w) A (eval (.Subscript value slice n) j) Q E s:=by
 refine Subscript_ (bV h (fun o f l=>bV l (fun i d e=>?_) fun _ _ x=>x) fun _ _ x=>x);obtain⟨p,e⟩:=e;unfold subscriptTail;refine ac ?_;rw[getitemInPython_of_ne p.not_modules];refine ac (A2 p q ?_);have k:wpAny (model a w) A (vd slice false o i) (fun r g=>wpAny (model a w) A (letTemporaryGo value o r >>= fun _=>pure r) Q E g) E d:=by
  rw[t o i];exact wpAny_operating (bV e (fun r g m=>ac (wpAny_letTemporaryGo (ak m))) fun _ _ x=>x)
 first
  |exact ak (ac k)
  |exact ac (ak (ac k))
  |exact ac k
theorem xJ{X:Cx}{h:Zd}{σ:St}{H:Hp}{s:Shared}{a:Addr}{y:V}{o:Option V}(I:Inv X h σ H s)(g:qa X.K H a y o):s.TypeIs (.ref a) "dict":=by
 rcases g with⟨d,k,e,_,_⟩|⟨d,k,b,e,_,_,_⟩
 ·obtain⟨_,_,i,_,f⟩:=pN I.hok e;exact f.typeIs
 ·obtain⟨_,_,xs,_,f⟩:=sm I.hok I.kIn e;exact f.typeIs
def wO(K:Za)(td ty:TE):TE:=fun σ H Q=>td σ H fun x H1=>ty σ H1 fun y H2=>∃a v,x=.ref a/\qa K H2 a y (some v)/\Q v H2
def Bb(K:Za)(ty td:TE):TE:=fun σ H Q=>ty σ H fun y H1=>td σ H1 fun x H2=>∃a o,x=.ref a/\qa K H2 a y o/\Q (.bl o.isSome) H2
def kN(K:Za)(ty td:TE):TE:=fun σ H Q=>ty σ H fun y H1=>td σ H1 fun x H2=>∃a o,x=.ref a/\qa K H2 a y o/\Q (.bl (!o.isSome)) H2
def kj(td ty tv:TE):TS:=fun D σ H=>tv σ H fun v H1=>td σ H1 fun x H2=>ty σ H2 fun y H3=>∃a H4,x=.ref a/\HI H3 a y v H4/\D.nx σ H4
section
variable{X:Cx}{o i e value:Expr}{pos pos' J7:Pos}{td ty tv:TE}
theorem qw(l:X.A.units+16<cLine)(m:PE X o td)(hi:PE X i ty)(n:BU i):PE X (.Subscript o i pos) (wO X.K td ty):=by
 intro j s σ H Q I h;refine Em PySem.F.slot_dict_getitem.lookup n (bY (m j s σ H _ I h) fun u p ⟨x,q,r,t,w⟩=>bY (hi j p σ q _ r w) fun E G d=>?_);obtain⟨y,z,k,B,a,v,ex,g,C⟩:=d;subst ex;obtain rfl:u=Value.ref a:=t;exact⟨xJ k g,BM l k g B fun J L D f=>⟨v,z,D,f,C⟩⟩
theorem rW(j:X.A.units+16<cLine)(hi:PE X i ty)(k:PE X o td):PC X .In i o (Bb X.K ty td):=by
 intro f s σ H Q I h;refine bY (hi f s σ H _ I h) fun C l ⟨y,m,n,p,q⟩=>bY (k f l σ m _ n q) fun u D d=>?_;obtain⟨x,r,t,v,a,w,ex,g,z⟩:=d;subst ex;obtain rfl:u=Value.ref a:=v;exact d_in j t g p fun E B=>⟨.bl w.isSome,r,B,rfl,z⟩
theorem ji(j:X.A.units+16<cLine)(hi:PE X i ty)(k:PE X o td):PC X .NotIn i o (kN X.K ty td):=by
 intro f s σ H Q I h;refine bY (hi f s σ H _ I h) fun C l ⟨y,m,n,p,q⟩=>bY (k f l σ m _ n q) fun u D d=>?_;obtain⟨x,r,t,v,a,w,ex,g,z⟩:=d;subst ex;obtain rfl:u=Value.ref a:=v;exact Fc j t g p fun E B=>⟨.bl (!w.isSome),r,B,rfl,z⟩
theorem gL(j:X.A.units+16<cLine)(k:PE X o td)(hi:PE X i ty)(l:PE X value tv)(m:jX value (some (.Subscript o i pos')) pos.line X.env=pure false):
  PS X (.Assign [.Subscript o i pos'] value pos) (kj td ty tv):=by
 intro d s σ H D I h;refine wpAny_Assign_Subscript (bY (l d s σ H _ I h) fun r n ⟨v,p,q,t,w⟩=>bY (k d n σ p _ q w) fun u z ⟨x,B,C,E,G⟩=>bY (hi d z σ B _ C G) fun Q T f=>?_) m;obtain⟨y,U,J,L,a,M,ex,g,N⟩:=f;subst ex;obtain rfl:u=Value.ref a:=E;exact BL j J g L t fun Y O=>⟨σ,M,O,N⟩
end
theorem xI{P:aU}{w:World}{K:Za}{H:Hp}(h:Heap)(a:d4<h.objs.size):aZ P w K H (h.push { cls:=.type "dict",data:=.dict #[] }) h.objs.size (.dK []) :=
 ⟨dY _,beq_eq_false_iff_ne.mpr (br (bB a)),[],.nil,Heap.DictOf.new h⟩
theorem Dz{P:aU}{w:World}{K:Za}{H:Hp}(h:Heap)(a:d4<h.objs.size):aZ P w K H (h.push { cls:=.type "dict",data:=.dict #[] }) h.objs.size (.dT []) :=
 ⟨dY _,beq_eq_false_iff_ne.mpr (br (bB a)),[],.nil,_,#[],0,bF _ rfl,⟨rfl,rfl,rfl⟩,rfl,rfl,oF⟩
def oX:TE:=fun _ H Q=>∀p,H p=none->Q (.ref p) (upd H p (.dK []))
def oW:TE:=fun _ H Q=>∀p,H p=none->Q (.ref p) (upd H p (.dT []))
section
variable{X:Cx}{pos:Pos}
theorem kr:PE X (.Dict [] [] pos) oX:=fun d s σ H Q I h =>
 wpAny_Dict_empty ⟨.ref s.heap.objs.size,_,I.laid (a:=s.heap.objs.size) (o:=.dK []) (t':=s.toks) (fun _ _ q=>aF _ q) (az _) (xI s.heap I.big),rfl,h _ (I.hok.fresh (az _))⟩
theorem kq:PE X (.Dict [] [] pos) oW:=fun d s σ H Q I h =>
 wpAny_Dict_empty ⟨.ref s.heap.objs.size,_,I.laid (a:=s.heap.objs.size) (o:=.dT []) (t':=s.toks) (fun _ _ q=>aF _ q) (az _) (Dz s.heap I.big),rfl,h _ (I.hok.fresh (az _))⟩
end
def yk:List (TE×TE)->St->Hp->(List (V×V)->Hp->Prop)->Prop
 |[],_,H,Q=>Q [] H
 | (tk,tv)::r,σ,H,Q=>tk σ H fun x H1=>tv σ H1 fun y H2=>yk r σ H2 fun ps H3=>Q ((x,y)::ps) H3
abbrev VV:List (V×V)->List (Value×Value)->Prop:=Paired fun p q=>RelV p.1 q.1/\RelV p.2 q.2
def HV(X:Cx)(pos:Pos)(keys:List (Option Expr))(values:List Expr)(trs:List (TE×TE)):Prop :=
 ∀(J2:Zd) (s:Shared) (σ:St) (H:Hp) (Q:List (V×V)->Hp->Prop),Inv X J2 σ H s->yk trs σ H Q ->
  wpAny (model X.prog X.w) X.A (evalPairs (pairTrees keys values X.env pos)) (fun vs s'=>∃ps H',Inv X J2 σ H' s'/\VV ps vs/\Q ps H') X.xe s
theorem EG{X:Cx}{a:Pos}:HV X a [] [] []:=fun d s σ H Q I h=>pairTrees_nil_walk ⟨[],H,I,.nil,h⟩
theorem CS{X:Cx}{a:Pos}{k v:Expr}{g:List (Option Expr)}{i:List Expr}{tk j:TE}{d:List (TE×TE)}(l:PE X k tk)(m:PE X v j)(n:HV X a g i d):
  HV X a (some k::g) (v::i) ((tk,j)::d):=fun e s σ H Q I h =>
 pairTrees_cons_walk (bY (l e s σ H _ I h) fun u o ⟨x,p,q,r,t⟩=>bY (m e o σ p _ q t) fun L w ⟨y,z,A,B,C⟩ =>
  bY (n e w σ z _ A C) fun M N ⟨D,E,G,f,J⟩=>⟨(x,y)::D,E,G,.cons ⟨r,B⟩ f,J⟩)
def gv(kvs more:List (dg×V)):List (dg×V):=more.foldl (fun acc kv=>dI acc kv.1 kv.2) kvs
theorem KV.merge:∀{a:List (dg×V)}{g:List (dg×Value)}{d:List (dg×V)}{f:List (dg×Value)},KV a g->KV d f->KV (gv d a) (merged f g):=by
 intro a g d f r;unfold KV at r
 induction r generalizing d f with
 |nil=>intro q;exact q
 |@cons p q k qs h t i =>
  intro j;have e:KV (dI d p.1 p.2) (stored f q.1 q.2):=by
   have:=j.put p.1 h.2;rw[<-h.1];exact this
  exact i e
theorem iZ:∀(d a:List (dg×V)),(gv a d).length<=a.length+d.length
 |[],a=>by show a.length<=a.length+0;omega
 |p::r,a=>by
  have e:=iZ r (dI a p.1 p.2);have f:=iF a p.1 p.2;show(gv (dI a p.1 p.2) r).length<=_;rw[dj];omega
theorem sD{P:aU}{w:World}:∀{d:List (dg×V)}{f:List (Value×Value)},VV (d.map fun g=>(kV g.1,g.2)) f->∃e,Carries (bv P w) f e/\KV d e
 |[],_,r=>by rw[oE]at r;cases r;exact⟨[],fy,.nil⟩
 |p::d,_,r=>by
  rw[bg]at r;cases r with
  |@cons a b j bs h t =>
   obtain⟨e,c,q⟩:=sD (P:=P) (w:=w) t;obtain⟨k,i⟩:=b;exact⟨(p.1,i)::e,⟨nN h.1,rfl,c⟩,.cons ⟨rfl,h.2⟩ q⟩
def Fx(trs:List (TE×TE)):TE:=fun σ H Q=>∀p,H p=none->yk trs σ (upd H p (.dK [])) fun ps H2=>H2 p=some (.dK [])/\∃kvs:List (dg×V),ps=kvs.map (fun kv=>(kV kv.1,kv.2))/\kvs.length<=15/\Q (.ref p) (upd H2 p (.dK (gv [] kvs)))
theorem EO{X:Cx}{f:Pos}{d:List (Option Expr)}{values:List Expr}{g:List (TE×TE)}(h:HV X f d values g)(i:d.all (·.isSome)=true)(r:d.length=values.length)(t:d≠[])
  (l:d.length<=15):PE X (.Dict d values f) (Fx g):=by
 intro u s σ H Q I q;have v:=I.hok.fresh (az s.heap.objs.size);have x:=I.laid (a:=s.heap.objs.size) (o:=.dK []) (h':=s.heap.push { cls:=.type "dict",data:=.dict #[] }) (t':=s.toks) (fun _ _ q=>aF _ q) (az _) (xI s.heap I.big);refine wpAny_Dict_walk (knd:=bv X.prog X.w) i r t l (bY (h u _ σ _ _ x (q _ v)) fun U Y m=>?_);obtain⟨ps,H2,p,n,e,j,y,lk,A⟩:=m;subst y;obtain⟨B,c,C⟩:=sD (P:=X.prog) (w:=X.w) n;obtain⟨z,D,E,G,J⟩:=FM p.hok e;cases G;refine⟨B,c,J,fun h' k L=>⟨.ref s.heap.objs.size,_,?_,rfl,A⟩⟩;have M:(gv [] j).length<=aj:=by
  have N:=iZ j [];rw[rm]at N;rw[zS];omega
 have O:∃q,h'.get? s.heap.objs.size=some q:=let⟨q,_,_,T,_⟩:=k;⟨q,T⟩;exact nS p (by rw[e];exact fy) L O (zc M D (C.merge .nil) k)
structure M2(X:Cx)(o:Expr)(m:Str)(J4:Pos)(e f:Expr)(J3:Pos):Prop where
 base:jW o m X.env (eval o X.env)=eval o X.env
 few:((backTo J3 (aq [e,f] X.env)).all (fun x=>!x.1) && (iY J3 (iX [] X.env)).all (fun x=>x.1.isSome)
  && decide (([e,f]:List Expr).length+([]:List oH).length+(if([]:List oH).isEmpty then 0 else 1)<30))=true
 line:(J4.endLine==J3.line)=true
 trees:backTo J3 (aq [e,f] X.env)=[(false,eval e X.env),(false,eval f X.env)]
def IsD(H:Hp)(a:Addr):Prop:=(∃kvs,Rd H a (.dK kvs))∨∃kvs,Rd H a (.dT kvs)
theorem GA{X:Cx}{l:Zd}{σ:St}{H:Hp}{s:Shared}{a:Addr}(I:Inv X l σ H s)(d:IsD H a):
  s.TypeIs (.ref a) "dict"/\(∀b,Value.ref a=.ref b->∃f,s.heap.get? b=some f/\f.dict=none)/\(a==d4)=false:=by
 rcases d with⟨h,e⟩|⟨h,e⟩
 ·obtain⟨_,i,m,_,g⟩:=pN I.hok e;refine⟨g.typeIs,fun b q=>?_,i⟩;cases q;obtain⟨f,_,_,j,k,_⟩:=g;exact⟨f,j,k.2.1⟩
 ·obtain⟨_,i,xs,_,g⟩:=sm I.hok I.kIn e;refine⟨g.typeIs,fun b q=>?_,i⟩;cases q;obtain⟨f,_,_,j,k,_⟩:=g;exact⟨f,j,k.2.1⟩
section
variable{X:Cx}{J2:Zd}{σ:St}{H:Hp}{s:Shared}{a:Addr}{y d:V}{u r:Value}{o:Option V}{A:Around}{E:Zc}
theorem GG{Q:Zc}(x:A.units+16<cLine)(I:Inv X J2 σ H s)(g:qa X.K H a y o)(p:RelV y u)(q:RelV d r)(h:∀t v,Inv X J2 σ H v->RelV (o.getD d) t->Q t v):
  wpAny (model X.prog X.w) A (call (.builtin "dict.get") [.ref a,u,r]) Q E s:=by
 rcases g with⟨j,k,e,m,l⟩|⟨j,k,b,e,m,B,C,l⟩
 ·subst m;obtain⟨z,n,D,f,i⟩:=pN I.hok e;refine call_meetsIn PySem.F.slot_dict_get i.typeIs PySem.F.entry_dict_get (PySem.F.args_dict_get_3 _ _ _) (meets_dict_get_default (bv X.prog X.w) a (nN p) n r) ⟨_,i.mapOf,h _ _ (I.tok _) ?_⟩;rw[l];exact(f.val k).getD q
 ·subst m;cases(show u=Value.ref b from p);obtain⟨z,n,xs,f,i⟩:=sm I.hok I.kIn e;refine call_meetsIn PySem.F.slot_dict_get i.typeIs PySem.F.entry_dict_get (PySem.F.args_dict_get_3 _ _ _) (meetsH_dict_get_default (d6 X.prog X.w) a b n r) ⟨fJ x,k,xs,vQ I B C,i,h _ _ (I.tok _) ?_⟩;rw[l];exact(f.val k).getD q
end
def oY(K:Za)(td ty tx:TE):TE:=fun σ H Q=>td σ H fun x H1=>∃a,x=.ref a/\IsD H1 a/\ty σ H1 fun y H2=>tx σ H2 fun z H3=>∃o,qa K H3 a y o/\Q (o.getD z) H3
section
variable{X:Cx}{o e f:Expr}{J4 J3:Pos}{td ty tx:TE}
theorem nG(n:X.A.units+16<cLine)(p:PE X o td)(q:PE X e ty)(hf:PE X f tx)(m:M2 X o "get" J4 e f J3):PE X (.Call (.Attribute o "get" J4) [e,f] [] J3) (oY X.K td ty tx):=by
 intro i s σ H Q I h;refine wpAny_Call_method m.base m.few m.line PySem.F.plainAttrs_dict PySem.F.slot_dict_get PySem.F.type_dict_get (bY (p i s σ H _ I h) fun u r j=>?_);obtain⟨x,t,l,v,a,ex,d,w⟩:=j;subst ex;obtain rfl:u=Value.ref a:=v;obtain⟨B,C,_⟩:=GA l d;refine⟨B,C,?_⟩;rw[m.trees];refine lW rfl (Calls.evalArgs_plain (oK (bY (q i r σ t _ l w) fun Y D ⟨y,E,G,J,L⟩ =>
  oK (bY (hf i D σ E _ G L) fun fv s3 ⟨z,M,N,O,ov,g,T⟩=>wl ?_))))
 exact GG n N g J O fun w' s4 U k=>⟨_,M,U,k,T⟩
end
end L2
namespace Att
open PySem PySem.W PySem.Calls PyProof.Rows
theorem ints_of_wellAll{P:Params}{h:Heap}:∀(d:List Int) (vs:Zf),WellAll P h vs (d.map WData.int)->rh vs d:=by
 intro d
 induction d with
 |nil =>
  intro vs w;rw[oE]at w;cases w;exact .nil
 |cons n d e =>
  intro vs w;rw[bg]at w;cases w with
  |cons a b =>
   cases a;exact .cons _ _ (e _ b)
theorem script_of{l:OpenLaw}{n:Nat}(u:l.most=some n){P:Params}{h:Heap}{args:List WData}{f:Zf}
  (g:l.row.toRowW.claim.pre args=true) (o:WellAll P h f args) :
  ∃a s e,f=[Value.ref a]/\args=[WData.list (e.map WData.int)]/\h.get? a=some { cls:=.type "list",data:=.seq s.toArray }/\rh s e/\e.length<=n:=by
 have p:WShape.hasAll [] args [.list .int]=true:=(pre_splitW g).1;have t:l.pre.holds [] { args:=args }=true:=(pre_splitW g).2;obtain⟨d,r,rfl,v,w⟩:=hasAllW_cons p;obtain rfl:=hasAllW_nil w;obtain⟨xs,rfl,x⟩:=hasW_list v;obtain⟨e,rfl⟩:=items_int x;have i:e.length<=n:=by
  unfold OpenLaw.pre at t;have k:(WTm.not (.lt (.lit (.int (n:Int))) (.len (.arg 0)))).holds [] { args:=[.list (e.map .int)] }=true:=by
   have k:=(holds_andW t).1;rw[u]at k;exact k
  have m:=condW_of k (w_not (w_lt w_lit (w_len_list (w_arg rfl))));rw[ao]at m;refine Nat.le_of_not_lt fun q=>?_;have y:(n:Int)<((e.length:Nat):Int):=by omega
  first
   | (rw[zzr1 y]at m;exact absurd m (by decide))
   | (simp at m;omega)
 cases o with
 |cons z A =>
  cases A;cases z with
  |list B j=>exact⟨_,_,e,rfl,rfl,B,ints_of_wellAll e _ j,i⟩
theorem post_true(l:OpenLaw)(args:List WData):l.row.toRowW.claim.post args (.bool true) args=true :=
 postW_of (r:=l.row.toRowW) (X:=(true==true))
  (show WShape.has [] (.bool true) .bool=true by first|rfl|decide|simp[WShape.has,WShape.arms,WShape.armsAll])
  (show(WTm.eq .res (.lit (.bool true))).value [] { args:=args,res:=some (.bool true),after:=args }=some (.bool (true==true))from w_eq_bool (w_res rfl) w_lit) rfl
theorem attach_call{l:OpenLaw}{n:Nat}{q:aU}{loose:Zb}{B:(Str->Option Value)->Heap->Prop}{C:World->Heap->Prop}{d:DefRec}
  (I:l.most=some n) (u:d.params.defaults=[])
  (call:∀(w:World) (g e:Shared) (p v:Str->Option Value) (i:Addr) (o:Obj) (x cd doc:Value) (a:Addr) (h:Zf) (s:List Int),
   Ground q loose [] B w g p v e.heap->C w e.heap ->
   e.heap.get? i=some o->o.data=.func (docDef d.name d.params d.body d.scope x cd doc)->e.heap.CodeRec cd d.name->p d.name=some (.ref i) ->
   e.heap.get? a=some { cls:=.type "list",data:=.seq h.toArray }->rh h s->s.length<=n->e.gens=#[] ->
   zzl87 (model l.prog w) j8 (.call (.ref i) ⟨[.ref a],[]⟩) (fun r t=>r=.ok (.ret (.bool true))/\OldK e.heap t.heap/\t.os=e.os/\lK t.gens) e) :
  WalkO q loose B C l.row.toRowW d [] (fun f h=>PySem.call f h):=by
 intro w g e p v G Y i o x cd doc J kV L M y D z N args E as j H O A Q;obtain rfl:J=.none:=Dflts.none D u;obtain rfl:kV=.none:=Dflts.noKw D;obtain⟨a,h,s,rfl,rfl,k,hints,m⟩:=script_of I j A;refine enter_call (ma (call w g e p v i o x cd doc a h s G Y L (fd_plain M) y z k hints m N) fun r t T=>?_);obtain⟨rfl,U,h3,h4⟩:=T;exact⟨.inl ⟨.bool true,.bool true,[],rfl,fun _=>rfl,.bool true,post_true l _,fun _=>⟨List.Pairwise.nil,fun _ hm=>(nomatch hm)⟩⟩,U,h3,h4⟩
end Att
namespace L2
open PySem PySem.Spec PyProof.Rows
theorem tS:∀{a:Zf}{d:List Int},rh a d->aP (d.map V.int) a
 |_,_,.nil=>.nil
 |_,_,.cons n t h=>.cons ⟨t,rfl⟩ (tS h)
def Fk(H:Hp):Prop:=∀b,H b=none∨∃o xs,H b=some (.frz o (.lst xs))
theorem C_{P:aU}{w:World}{K:Za}{A Q:Str->Option Value}{CX:BX}{k:Nat}{T a:Addr}{fd:eX}{x:Str}{sp:Sp}{f:Shared}{t:Zf}{B:List Int}
  (KX:K.In f.heap) (C:f.heap.Ns ba A) (i:f.heap.Ns builtinsNs Q) (U:∀x:Str,x≠"__name__"->Q x=gZ x) (D:f.heap.NoLimit) (hg:f.gens=#[])
  (O:f.heap.get? a=some { cls:=.type "list",data:=.seq t.toArray }) (hi:rh t B) (hl:B.length<=aj) (hr:cV k j8)
  (F:∀base:Heap,K.In base->base.Ns ba A->ig P w K A base CX k T fd [x] sp) (y:∀(s:Shared) (u:Value),md s fd ⟨[u],[]⟩ [(x,u)])
  (Y:∀H:Hp,Fk H->aH K H a (B.map V.int)->sp [.ref a] H (fun v _=>v=.bl true) fun _ _ _=>False)
  (ab:∀H e j,CX [] H f (fun _ _ _=>False) e j->False) :
  zzl87 (model P w) j8 (.call (.ref T) ⟨[.ref a],[]⟩) (fun r j=>r=.ok (.ret (.bool true))/\OldK f.heap j.heap/\j.os=f.os/\lK j.gens) f:=by
 have rv:=tS hi;have E:=hi.length;have p:∀H:Hp,Fk H->aH K H a (B.map V.int)->jp P w K H f.heap->(∀b,H b≠none->b=a)->(H a≠none->K.lookup a=none) ->
   zzl87 (model P w) j8 (.call (.ref T) ⟨[.ref a],[]⟩) (fun r j=>r=.ok (.ret (.bool true))/\OldK f.heap j.heap/\j.os=f.os/\lK j.gens) f:=by
  intro H hO hS G hA hK;have g:∀{b:Addr}{o:Obj},f.heap.get? b=some o->H b=none->(vS f.heap H).get? b=some o:=fun e n=>Dj e n;have al:∀{b:Addr}{o:Obj}{es:Array fF}{I:Nat},f.heap.get? b=some o->o.data=.dict es I->H b=none:=fun{b o es I} e d=>by
   cases q:H b with
   |none=>rfl
   |some u =>
    have e':b=a:=hA b (by rw[q];simp);subst e';rw[O]at e;cases e;have d':Data.seq t.toArray _=Data.dict es I:=d;cases d'
  have l:∀{b:Addr}{m:Str->Option Value},f.heap.Ns b m->(vS f.heap H).Ns b m:=fun{b m} ⟨o,es,I,e,d,r⟩=>⟨o,es,I,g e (al e d),d,r⟩;have J:K.In (vS f.heap H):=fun b o e=>g (KX b o e) (by
   cases q:H b with
   |none=>rfl
   |some u =>
    have e':b=a:=hA b (by rw[q];simp);subst e';rw[hK (by rw[q];simp)]at e;cases e)
  have hM:Mod K A (vS f.heap H):=⟨J,l C,⟨Q,l i,U⟩,let⟨mc,h1,h2⟩:=D;⟨mc,l h1,h2⟩⟩;have e0:zN P w K A (vS f.heap H) j8 [] f H:=⟨rfl,hM,fun b o e=>EU e,Nat.le_of_eq (BF _ _),trivial,fun b i=>absurd (show b∈([]:Ze)from i) (by simp),G,.of_eq hg⟩;refine ma ((F _ J (l C)).run j8 [] f H ⟨[.ref a],[]⟩ [.ref a] [.ref a] _ _ hr e0 (y f (.ref a)) (.cons rfl .nil) (Y H hO hS)) fun r j h=>?_;cases r with
  |error e=>exact(ab H e j h).elim
  |ok fl =>
   cases fl with
   |next=>exact bx h
   |brk=>exact bx h
   |cont=>exact bx h
   |ret u =>
    obtain⟨v,H',os,L,un,M,r',q⟩:=h;have q':v=.bl true:=q;subst q';obtain rfl:u=Value.bool true:=r';refine⟨rfl,OldK.of_keep fun b o e=>?_,os,L⟩;cases q:H b with
    |none=>exact un.keep b o e q (by intro z;exact absurd (show b∈([]:Ze)from z) (by simp)) (by simp)
    |some u =>
     rcases hO b with z|⟨ob,xs,z⟩
     ·rw[q]at z;cases z
     ·have z2:=un.frzs b ob _ z;obtain⟨e1,_⟩:=G b _ z;obtain⟨e2,_⟩:=M b _ z2;rw[e]at e1;cases e1;exact e2
 cases hk:K.lookup a with
 |some o =>
  have e:=KX a o hk;rw[O]at e;cases e;refine p (fun _=>none) (fun _=>.inl rfl) (.inr ⟨_,t.toArray,_,hk,rfl,rfl,rfl,by rw[bt,E];exact hl,by simpa using rv⟩) (fun b u z=>by have N:(none:Option HO)=some u:=z;cases N) (fun b z=>absurd rfl z) fun z=>absurd rfl z
 |none =>
  refine p (fun b=>if b=a then some (.frz { cls:=.type "list",data:=.seq t.toArray } (.lst (B.map V.int)))else none) (fun b=>?_) (.inl (.inr ⟨{ cls:=.type "list",data:=.seq t.toArray },if_pos rfl⟩)) (fun b u z=>?_) (fun b z=>?_) fun _=>hk
  ·by_cases i:b=a
   ·exact .inr ⟨_,_,if_pos i⟩
   ·exact .inl (if_neg i)
  ·by_cases i:b=a
   ·have N:=(if_pos i).symm.trans z;cases N;subst i;exact⟨O,by rw[ao];exact hl,t,_,rv,O⟩
   ·have N:=(if_neg i).symm.trans z;cases N
  ·by_cases i:b=a
   ·exact i
   ·exact absurd (if_neg i) z
end L2
namespace L2
open PySem PySem.Spec PyProof.Rows
theorem Ee{l:PySem.W.OpenLaw}{n k:Nat}{q:aU}{loose:Zb}{N:(Str->Option Value)->Heap->Prop}{I:World->Heap->Prop}{d:DefRec}{K:Params->Za}{CX:World->BX}{sp:World->Sp}{x:Str}
  (O:l.most=some n) (y:n<=aj) (z:d.params.defaults=[]) (Q:cV k j8)
  (U:∀(w:World) (h:Heap),I w h->(K w.params).In h)
  (F:∀(w:World) (j:Str->Option Value) (r:Addr) (h:Heap),(K w.params).In h->h.Ns ba j->j d.name=some (.ref r) ->
   ∃A:eX,(∀(s:Shared) (u:Value),md s A ⟨[u],[]⟩ [(x,u)]) /\
    ∀base:Heap,(K w.params).In base->base.Ns ba j->ig l.prog w (K w.params) j base (CX w) k r A [x] (sp w))
  (B:∀(w:World) (H:Hp) (a:Addr) (t:List Int),t.length<=n->Fk H->aH (K w.params) H a (t.map V.int)->sp w [.ref a] H (fun v _=>v=.bl true) fun _ _ _=>False)
  (C:∀(w:World) (H:Hp) (s:Shared) (e:Value) (D:Shared),CX w [] H s (fun _ _ _=>False) e D->False) :
  PySem.W.WalkO q loose N I l.row.toRowW d [] (fun f J=>PySem.call f J):=by
 refine Att.attach_call O z fun w L m j mb r o pm cd doc a J t G Y ho hd ab E p hints i hg=>?_;have M:=U w _ Y;obtain⟨A,hb,hF⟩:=F w j r _ M G.T.g E;exact C_ M G.T.g G.T.b G.T.builtins G.T.nolimit hg p hints (bN i y) Q hF hb (fun H hO hS=>B w H a t i hO hS) fun H e D=>C w H m e D
theorem walk_ofK{l:PySem.W.OpenLaw}{n k:Nat}{q:aU}{loose:Zb}{A:(Str->Option Value)->Heap->Prop}{t:World->Heap->Prop}{d:DefRec}{K:Params->Za}{CX:BX}{sp:Za->Sp}{x:Str}
  (B:l.most=some n) (j:n<=aj) (m:d.params.defaults=[]) (C:cV k j8)
  (D:∀(w:World) (h:Heap),t w h->(K w.params).In h)
  (F:∀(w:World) (g:Str->Option Value) (y:Addr) (h:Heap),(K w.params).In h->h.Ns ba g->g d.name=some (.ref y) ->
   ∃z:eX,(∀(s:Shared) (u:Value),md s z ⟨[u],[]⟩ [(x,u)]) /\
    ∀base:Heap,(K w.params).In base->base.Ns ba g->ig l.prog w (K w.params) g base CX k y z [x] (sp (K w.params)))
  (o:∀(K:Za) (H:Hp) (a:Addr) (i:List Int),i.length<=n->Fk H->aH K H a (i.map V.int)->sp K [.ref a] H (fun v _=>v=.bl true) fun _ _ _=>False)
  (p:∀(H:Hp) (s:Shared) (e:Value) (r:Shared),CX [] H s (fun _ _ _=>False) e r->False) :
  PySem.W.WalkO q loose A t l.row.toRowW d [] (fun f E=>PySem.call f E) :=
 Ee (K:=K) (CX:=fun _=>CX) (sp:=fun w=>sp (K w.params)) B j m C D F (fun w H a i G I J=>o (K w.params) H a i G I J) fun _ H s e r=>p H s e r
end L2
namespace L2
open PySem PySem.Spec PyProof.Rows
def fW(s:Stmt)(j:Nat):Stmt:=match s with
 |.ClassDef _ _ _ body _ _ _ _ _ _ _=>body.getD j (.Pass ⟨0,0,0,0⟩)
 |_=>.Pass ⟨0,0,0,0⟩
def gP(s:Stmt):Arguments:=match s with
 |.FunctionDef _ a _ _ _ _ _ _ _ _=>a
 |_=>{ posonlyargs:=[],args:=[],vararg:=none,kwonlyargs:=[],kw_defaults:=[],kwarg:=none,defaults:=[] }
def eh(s:Stmt):List Stmt:=match s with
 |.FunctionDef _ _ b _ _ _ _ _ _ _=>b
 |_=>[]
def aY(s:Stmt):Scope:=match s with
 |.FunctionDef _ _ _ _ _ _ sc _ _ _=>sc
 |_=>{ kind:=.function,names:=[],isGenerator:=false,isCoroutine:=false }
abbrev CX0:BX:=fun _ _ _ _ _ _=>False
abbrev E0:XK:=fun _ _ _=>False
abbrev bG(sp:Sp)(a:TA):TE:=rN sp [] E0 a
theorem Ax{X:Cx}:mG CX0 X E0:=fun _ _ _ _ _ _ _ h=>h.elim
structure FY(K:Za)(x qual:Str)(st:Stmt)(f:Addr)(fd:eX):Prop where
 ex:∃(oc:Value) (od:Option Addr) (kV doc pm:Value) (an:Option Addr) (cdv ct:Value) (osl:Array (Option Value)),
  fd=hU x qual (gP st) (eh st) (aY st) .none kV doc pm an cdv ct/\K.lookup f=some ⟨oc,od,.func fd,osl⟩/\lZ K cdv qual=true
 kp:dh K (.ref f)=true
section
variable{P:aU}{w:World}{K:Za}{mg:Str->Option Value}{base:Heap}
theorem FY.ok{x a:Str}{st:Stmt}{f:Addr}{n:eX}{N i:Zb}{k:Nat}{j:Sp}(F:FY K x a st f n)(S:fo N i (aY st))(len:∀e H Q E,j e H Q E->e.length=i.length)
  (g:∀(d:Value) (A:Around) (outer:List Env) (s:Shared) (H:Hp) (e:List V) (Q:VK) (E:XK),cV k (A.deeper (envOfC a (aY st) s.heap.objs.size f d))->j e H Q E ->
   ∃t,uE (tG CX0 P w K mg base N a (aY st) f d A outer s H E).nox (eh st) t/\t (bJ Q) (start N e) H):ig P w K mg base CX0 (k+1) f n i j:=by
 obtain⟨r,u,kV,doc,v,y,d,z,o,rfl,lk,l⟩:=F.ex;refine FK lk l S len fun A outer s H e Q E p m=>?_;obtain⟨t,h,q⟩:=g d A outer s H e Q E p m;exact⟨t,h.nox,q⟩
theorem FY.binds{x a:Str}{st:Stmt}{f:Addr}{k:eX}{ps:Zb}(F:FY K x a st f k)
  (h:∀(kV doc e:Value) (g:Option Addr) (d i:Value) (j:Zf),j.length=ps.length->bindArgs (hU x a (gP st) (eh st) (aY st) .none kV doc e g d i) ⟨j,[]⟩=pure (ps.zip j)):Binds K k ps []:=by
 obtain⟨n,o,kV,doc,e,g,d,i,l,rfl,lk,m⟩:=F.ex;exact .all (h kV doc e g d i)
theorem Dn{x a:Str}{st:Stmt}{f:Addr}{j:Value}{m g:Option Addr}{e:Array (Option Value)}{kV doc h d i:Value}(l:K.lookup f=some ⟨j,m,.func (hU x a (gP st) (eh st) (aY st) .none kV doc h g d i),e⟩)
  (c:lZ K d a=true) (k:dh K (.ref f)=true):FY K x a st f (hU x a (gP st) (eh st) (aY st) .none kV doc h g d i):=⟨⟨j,m,kV,doc,h,g,d,i,e,rfl,l,c⟩,k⟩
end
theorem sj{A:Around}{k:Nat}(a:cV k A):A.units+16<cLine:=rg (Nat.add_le_add_left (by decide:16<=64) _) a.units
theorem av{n:Nat}(h:n<=1000):n<aj:=rg h (by decide)
section
variable{X:Cx}
theorem pv(i:Nat){x:Str}{a:Pos}(e:X.N[i]?=some x:=by rfl)(f:Vis X.env.scope x:=by first|exact Or.inl rfl|exact Or.inr (Or.inl rfl)|exact Or.inr (Or.inr rfl))(g:(x==("__debug__":Str))=false:=by decide)
  (d:(x==("__classdict__":Str))=false:=by decide):PE X (.Name x a) (jT i):=Gm e f g d
end
theorem cF{A B:Prop}(h:B):if false=true then A else B:=by
 rw[if_neg fX];exact h
theorem cZ{A B:Prop}(h:A):if true=true then A else B:=by
 rw[if_pos rfl];exact h
theorem tD{c A B:Prop}[Decidable c](a:c->A)(d:¬c->B):if c then A else B:=by
 by_cases h:c
 ·rw[if_pos h];exact a h
 ·rw[if_neg h];exact d h
def af(H H':Hp):Prop:=∀b o,H b=some o->H' b=some o
theorem af.refl(H:Hp):af H H:=fun _ _ h=>h
theorem af.trans{H d e:Hp}(a:af H d)(b:af d e):af H e:=fun c o h=>b c o (a c o h)
theorem af.free{H a:Hp}(e:af H a){l:Addr}(h:a l=Option.none):H l=Option.none:=by
 cases q:H l with
 |none=>rfl
 |some o =>
  rw[e l o q]at h;cases h
theorem af.seq{K:Za}{H d:Hp}{a:Addr}{xs:List V}(e:af H d)(h:aH K H a xs):aH K d a xs:=by
 rcases h with(h|⟨o,h⟩)|h
 ·exact .inl (.inl (e _ _ h))
 ·exact .inl (.inr ⟨o,e _ _ h⟩)
 ·exact .inr h
section
variable{prog:aU}{w:World}{A:Around}{R:Result->Shared->Prop}{s:Shared}
abbrev XF:Value->Shared->Prop:=fun _ _=>False
abbrev y_(ifs:List Expr)(env:Env):Sem Bool:=forIn ifs true fun c r=>if r=true then do let ok <- isTrue c env (eval c env);pure (u9 ok)else pure (u9 r)
theorem vW{q target i:Expr}{t:List Expr}{scope:Scope}{z:Pos}{it u:Value}{a:Env}(I:Nat->Shared->Prop)
  (turn:∀n s,I n s->wpAny (model prog w) A (pyNext it) (fun r d=>match r with
   |none=>R (.ok .next) d
   |some v=>wpAny (model prog w) A (zV target it v) (fun _ e=>wpAny (model prog w) A (assign target a v) (fun _ j =>
     wpAny (model prog w) A (y_ t a) (fun ok f =>
      if ok=true then wpAny (model prog w) A (eval q a) (fun x k =>
       wpAny (model prog w) A (call (.builtin "list.append") [u,x]) (fun _ l=>∃m,m<n/\I m l) XF k) XF f
      else ∃m,m<n/\I m f) XF j) XF e) XF d) XF s)
  (n:Nat) (h:I n s):zzl87 (model prog w) A (.compLoop (.ListComp q [⟨target,i,t,0⟩] scope z) 0 it u a) R s:=by
 refine codeAny_loop rfl I (fun n s E=>?_) n h;show wpAny _ A ((compTurn (.ListComp q [⟨target,i,t,0⟩] scope z) 0 it u a).onRaise (fun x=>do oC x a;theTreesLotGoes x)) _ _ s
 refine wpAny_noted ?_;rw[compTurn_list];refine ac (wq (ac (bV (turn n s E) (fun r d o=>?_) fun _ _ g=>g.elim)));cases r with
 |none=>exact ak o
 |some v =>
  refine ac (bV o (fun _ e y=>?_) fun _ _ g=>g.elim);refine ac (bV y (fun _ j B=>ac (bV B (fun ok f p=>?_) fun _ _ g=>g.elim)) fun _ _ g=>g.elim);cases ok with
  |false=>exact ak ⟨rfl,p⟩
  |true =>
   exact ac (ac (bV p (fun x k C=>ac (bV C (fun _ l D=>ak (ak ⟨rfl,D⟩)) fun _ _ g=>g.elim)) fun _ _ g=>g.elim))
end
theorem mC{env:Env}:∀(names:List (Str×fH)) (a:List (Str×Addr)),(∀y∈names,y.2=.free->∃c,env.cells.lookup y.1=some c)->(∀x c,a.lookup x=some c->env.cells.lookup x=some c) ->
  ∃f:List (Str×Addr),(forIn names a fun(x:Str×fH) (r:List (Str×Addr))=>if(x.2==j7)=true then(cellOf env x.1 >>= fun c=>(pure (u9 ((x.1,c)::r)):Sem (ForInStep (List (Str×Addr)))))else pure (u9 r))=pure f /\
   (∀x c,f.lookup x=some c->env.cells.lookup x=some c)/\(∀x,(a.lookup x).isSome=true->(f.lookup x).isSome=true)/\∀y∈names,y.2=.free->(f.lookup y.1).isSome=true
 |[],a,_,m=>⟨a,rfl,m,fun _ h=>h,fun _ h=>nomatch h⟩
 | (n,k)::r,a,has,m=>by
  have t:∀y∈r,y.2=.free->∃c,env.cells.lookup y.1=some c:=fun y hy=>has y (cO _ hy);by_cases p:k=.free
  ·subst p;obtain⟨c,u⟩:=has (n,.free) b_ rfl;obtain⟨f,e,q,o,s⟩:=mC r ((n,c)::a) t (fun x d l=>by
    rw[hJ]at l;cases hx:x==n with
    |true =>
     rw[hx]at l;have:x=n:=by simpa using hx
     subst this;cases l;exact u
    |false=>rw[hx]at l;exact m x d l)
   have g:(((n,c)::a).lookup n).isSome=true:=by rw[hJ,beq_self_eq_true];rfl
   have i:∀x,(a.lookup x).isSome=true->(((n,c)::a).lookup x).isSome=true:=fun x hx=>by
    rw[hJ];cases x==n with
    |true=>rfl
    |false=>exact hx
   refine⟨f,?_,q,fun x hx=>o x (i x hx),fun y hy hf=>?_⟩
   ·rw[lU];have j:cellOf env n=pure c:=by unfold cellOf;rw[u]
    simp only[beq_self_eq_true,if_true,j];exact e
   ·rcases bA.mp hy with rfl|hy
    ·exact o _ g
    ·exact s y hy hf
  ·obtain⟨f,e,q,o,s⟩:=mC r a t m;refine⟨f,?_,q,o,fun y hy hf=>?_⟩
   ·rw[lU];have v:(k==j7)=false:=by simpa using p
    simp only[v,g_,if_false];exact e
   ·rcases bA.mp hy with rfl|hy
    ·exact absurd hf p
    ·exact s y hy hf
theorem sC{env:Env}{scope:Scope}(has:∀y∈scope.names,y.2=.free->∃c,env.cells.lookup y.1=some c):
  ∃a:List (Str×Addr),closureFor scope env=pure a/\(∀x c,a.lookup x=some c->env.cells.lookup x=some c)/\∀y∈scope.names,y.2=.free->(a.lookup y.1).isSome=true:=by
 obtain⟨a,e,d,_,f⟩:=mC (env:=env) scope.names [] has (fun _ _ h=>nomatch h);refine⟨a,?_,d,f⟩;unfold closureFor
 first
  |exact e
  | (simp only[bind_pure];exact e)
  | (rw[show(forIn scope.names [] _:Sem (List (Str×Addr)))=pure a from e];rfl)
def c6(X:Cx)(N:Zb)(scope:Scope)(C:Addr)(cl:List (Str×Addr))(s₀:Shared)(H₀:Hp)(ex:Ze)(pn:Zd):Cx where
 prog:=X.prog
 w:=X.w
 K:=X.K
 mg:=X.mg
 base:=X.base
 A:=X.A
 N:=N
 s₀:=s₀
 H₀:=H₀
 env:=compEnvC scope cl C X.env
 outer:=X.stack
 stack:=X.stack
 ex:=ex
 fn:=fun _=>false
 calm:=X.calm
 pn:=pn
 xe:=XF
def k_(sc scope:Scope)(k:Nat)(N XN:Zb)(fi:List Nat):Bool :=
 decide (scope.kind=.function) &&
 (scope.names.all fun y=>decide (y.2≠.cell) && (decide (y.2≠.local) || decide (scope.names.lookup y.1=some .local)) && (decide (y.2≠.free) || decide (sc.names.lookup y.1=some .cell) || decide (sc.names.lookup y.1=some .free))) &&
 decide (N.length=k+fi.length) &&
 ((bO fi.length).all fun j=>match fi[j]? with
  |some i=>match N[k+j]?,XN[i]? with
   |some x,some y=>decide (x=y) && decide (scope.names.lookup x=some .free)
   |_,_=>false
  |none=>false)
structure mQ(sc scope:Scope)(k:Nat)(N XN:Zb)(fi:List Nat):Prop where
 kind:scope.kind=.function
 cell:∀y∈scope.names,y.2≠.cell
 nm:∀y∈scope.names,y.2=.local->scope.names.lookup y.1=some .local
 fr:∀y∈scope.names,y.2=.free->sc.names.lookup y.1=some .cell∨sc.names.lookup y.1=some .free
 len:N.length=k+fi.length
 sl:∀j i,fi[j]?=some i->∃x,N[k+j]?=some x/\XN[i]?=some x/\scope.names.lookup x=some .free
theorem mQ.of{sc scope:Scope}{k:Nat}{N f:Zb}{g:List Nat}(h:k_ sc scope k N f g=true):mQ sc scope k N f g:=by
 unfold k_ at h;simp only[u8,List.all_eq_true,Bool.or_eq_true,decide_eq_true_eq]at h;obtain⟨⟨⟨m,l⟩,n⟩,o⟩:=h;refine⟨m,fun y d=>(l y d).1.1,fun y d e=>((l y d).1.2).resolve_left fun z=>z e,fun y d e=>?_,n,fun j i e=>?_⟩
 ·rcases(l y d).2 with(z|z)|z
  ·exact absurd e z
  ·exact .inl z
  ·exact .inr z
 ·have p:j<g.length:=(gE.mp e).1;have q:=o j (i8.mpr p);rw[e]at q;dsimp only at q;cases a:N[k+j]? with
  |none=>rw[a]at q;cases q
  |some x =>
   cases b:f[i]? with
   |none=>rw[a,b]at q;cases q
   |some y =>
    rw[a,b]at q;simp only[u8,decide_eq_true_eq]at q;exact⟨x,rfl,by rw[q.1],q.2⟩
theorem gG{a:Env}:∀{names:List (Str×fH)}{x:Str},names.lookup x=some .free ->
  (names.map fun(n,k)=>if(k==j7 && a.scope.kind==.function && a.kindOf n==some .cell)then(n,fH.cell)else(n,k)).lookup x=some .cell ∨
  (names.map fun(n,k)=>if(k==j7 && a.scope.kind==.function && a.kindOf n==some .cell)then(n,fH.cell)else(n,k)).lookup x=some .free
 |[],_,h=>by simp at h
 | (n,k)::r,x,h=>by
  have e:=@gG a r x;simp only[bg];cases hx:x==n with
  |true =>
   simp only[hJ,hx]at h;cases h;by_cases d:(j7==j7 && a.scope.kind==.function && a.kindOf n==some .cell)=true
   ·left;rw[if_pos d];simp[hJ,hx]
   ·right;rw[if_neg d];simp[hJ,hx]
  |false =>
   simp only[hJ,hx]at h;by_cases d:(k==j7 && a.scope.kind==.function && a.kindOf n==some .cell)=true
   ·rw[if_pos d];simp only[hJ,hx];exact e h
   ·rw[if_neg d];simp only[hJ,hx];exact e h
def dX(k:Nat)(fi:List Nat)(σ:St):St:=vg k none++fi.map fun i=>(σ[i]?).join
theorem zi(k:Nat)(a:List Nat)(σ:St):(dX k a σ).length=k+a.length:=by simp[dX]
theorem sy{k:Nat}{d:List Nat}{σ:St}{i:Nat}{v:V}(h:(dX k d σ)[i]?=some (some v)):∃j t,i=k+j/\d[j]?=some t/\σ[t]?=some (some v):=by
 unfold dX at h;by_cases hi:i<k
 ·rw[oI (by simpa using hi),List.getElem?_replicate_of_lt hi]at h;cases h
 ·rw[oJ (by simp;omega),List.length_replicate,cX]at h;refine⟨i-k,?_⟩;cases e:d[i-k]? with
  |none=>rw[e]at h;cases h
  |some t =>
   rw[e]at h;simp only[rn]at h;refine⟨t,by omega,rfl,?_⟩;have a:=eJ h;cases f:σ[t]? with
   |none=>rw[f]at a;cases a
   |some o=>rw[f]at a;simp only[Option.join]at a;first|(rw[a])|(subst a;rfl)|(simpa using a)
def BT(k:Nat)(g:TG):Prop:=∀x σ H Q,g x σ H Q->g x σ H fun σ2 H2=>Q σ2 H2/\σ2.length=σ.length/\∀i,k<=i->σ2[i]?=σ[i]?
theorem c_{k i:Nat}(h:i<k):BT k (cT i):=fun x σ H Q q=>⟨q,by simp,fun j a=>by rw[zX (by omega)]⟩
def FV(X:Cx)(ifs:List Expr)(t:TT):Prop :=
 ∀(J2:Zd) (s:Shared) (σ:St) (H:Hp) (Q:Bool->Hp->Prop),Inv X J2 σ H s->t σ H Q->wpAny (model X.prog X.w) X.A (y_ ifs X.env) (TP X J2 σ Q) X.xe s
def oR:TT:=fun _ H Q=>Q true H
theorem fg{X:Cx}:FV X [] oR:=fun a s σ H Q I h=>ak ⟨H,I,h⟩
theorem vJ{X:Cx}{c:Expr}{t:TT}(h:PT X c t):FV X [c] t:=by
 intro a s σ H Q I d;unfold y_;rw[lU];simp only[if_true];refine ac (ac (bY (h a s σ H Q I d) fun b e q=>ak ?_));exact ak q
def gF(k:Nat)(fi:List Nat)(wi:TI)(g:TG)(tc:TT)(te:TE):TE:=fun σ H Q=>wi σ H fun J H1=>∀l,H1 l=none->∃W:Nat->Nat->List V->Hp->Prop,(∃m,W 0 m [] (upd H1 l (.lst [])))/\∀i m vs H2,W i m vs H2->H2 l=some (.lst vs) /\
 ((J.stop i H2/\Q (.ref l) H2)∨(J.go i H2/\∀x H3,J.yld i H2 x H3->g x (dX k fi σ) H3 fun σ2 H4=>tc σ2 H4 fun b H5 =>
  if b=true then te σ2 H5 fun v H6=>H6 l=some (.lst vs)/\vs.length<aj/\∃m',m'<m/\W (i+1) m' (vs++[v]) (upd H6 l (.lst (vs++[v])))else ∃m',m'<m/\W (i+1) m' vs H5))
section
variable{X:Cx}{J2:Zd}{σ:St}
theorem Fe{k:Nat}{N:Zb}{scope:Scope}{D:List Nat}{H:Hp}{s:Shared}{p:List (Str×Addr)}{t:Ze}(S:mQ X.env.scope scope k N X.N D)(I:Inv X J2 σ H s)
  (f:∀x c,p.lookup x=some c->X.env.cells.lookup x=some c) (u:∀y∈scope.names,y.2=.free->(p.lookup y.1).isSome=true) (hf:∀b∈t,kJ X J2 H b) (v:∀b∈t,b<s.heap.objs.size) :
  (c6 X N scope s.heap.objs.size p s H t (X.pn++J2)).Ok where
 mod:=I.ok.mod
 kind:=S.kind
 glob:=I.ok.glob
 blt:=I.ok.blt
 above:=az _
 inj:=fun x y c E G=>I.ok.inj x y c (f x c E) (f y c G)
 has:=fun x h=>by
  have w:∃y∈scope.names,y.1=x/\y.2=.free:=by
   have h':(relabel scope X.env).names.lookup x=some .cell∨(relabel scope X.env).names.lookup x=some .free:=h;have i:∀(l:List (Str×fH)) (kd:fH),l.lookup x=some kd->(x,kd)∈l:=by
    intro l
    induction l with
    |nil=>intro kd e;cases e
    |cons a r J =>
     intro kd e;obtain⟨n,A⟩:=a;rw[hJ]at e;cases hx:x==n with
     |true =>
      rw[hx]at e;have:x=n:=by simpa using hx
      subst this;cases e;exact b_
     |false=>rw[hx]at e;exact cO _ (J kd e)
   have d:∀kd,(x,kd)∈(relabel scope X.env).names->kd=.cell∨kd=.free->∃y∈scope.names,y.1=x/\y.2=.free:=by
    intro kd L B;obtain⟨⟨n,A⟩,j,e⟩:=ay.mp L;dsimp only at e;by_cases m:(A==j7 && X.env.scope.kind==.function && X.env.kindOf n==some .cell)=true
    ·have C:A=.free:=by
      simp only[u8]at m;simpa using m.1.1
     rw[if_pos m]at e;cases e;exact⟨_,j,rfl,C⟩
    ·rw[if_neg m]at e;cases e;rcases B with rfl|rfl
     ·exact absurd rfl (S.cell _ j)
     ·exact⟨_,j,rfl,rfl⟩
   rcases h' with h'|h'
   ·exact d _ (i _ _ h') (.inl rfl)
   ·exact d _ (i _ _ h') (.inr rfl)
  obtain⟨y,j,rfl,B⟩:=w;exact rA.mp (u y j B)
 cab:=fun x c h=>by cases h
 hd:=I.ok.hd
 frames:=I.ok.frames
 stk:=.inl rfl
 exf:=fun b g=>⟨bB (v b g),fun x c e=>(hf b g).2.2.2.2.1 x c (f x c e)⟩
 bs:=I.bs
 bsz:=bN I.ok.bsz I.sz
 noex:=fun b o e g=>by
  rcases(hf b g).2.2.2.1 with z|z
  ·exact I.ok.noex b o e z
  ·exact absurd (cb (ar (I.ok.bs b o e).1) z) (jQ _)
 exfs:=fun b g z=>by
  obtain⟨_,M,O,_⟩:=hf b g;rcases bA.mp (I.stkSub b z)with q|q
  ·exact M q
  ·exact O q
 funs:=I.stack
 frf:=I.stkFree
theorem DK{k:Nat}{N:Zb}{scope:Scope}{Q:List Nat}{H:Hp}{s:Shared}{D:List (Str×Addr)}{E:Ze}{f:Heap}{t':Nat}{m:Str->Option Value}(S:mQ X.env.scope scope k N X.N Q)(I:Inv X J2 σ H s)
  (g:∀x c,D.lookup x=some c->X.env.cells.lookup x=some c) (A:∀y∈scope.names,y.2=.free->(D.lookup y.1).isSome=true) (hf:∀b∈E,kJ X J2 H b) (G:∀b∈E,b<s.heap.objs.size)
  (hn:f.Ns s.heap.objs.size m) (old:∀b o,s.heap.get? b=some o->f.get? b=some o) :
  Inv (c6 X N scope s.heap.objs.size D s H E (X.pn++J2)) [] (dX k Q σ) H { s with heap:=f,toks:=t' }:=by
 have w:∀(l:List (Str×fH)) (x:Str) (kd:fH),l.lookup x=some kd->(x,kd)∈l:=by
  intro l
  induction l with
  |nil=>intro x kd e;cases e
  |cons a r ih =>
   intro x kd e;obtain⟨n,k'⟩:=a;rw[hJ]at e;cases hx:x==n with
   |true =>
    rw[hx]at e;have:x=n:=by simpa using hx
    subst this;cases e;exact b_
   |false=>rw[hx]at e;exact cO _ (ih x kd e)
 refine⟨Fe S I g A hf G,rfl,I.bare,Un.kept old,⟨m,hn,fun i x v e1 e2 e3=>?_⟩,fun x c e=>?_,I.hok.fresh (az _),fun x c e=>I.freeC x c (g x c e),fun p T=>?_,I.hok.kept old,?_⟩
 ·obtain⟨j,t,rfl,ht,hv⟩:=sy e2;obtain⟨y,hy,J,B⟩:=S.sl j t ht;have C:N[k+j]?=some x:=e1;rw[hy]at C;cases C;have h:=w _ _ _ B;obtain⟨c,U⟩:=rA.mp (A _ h rfl);have hX:=g _ _ U;obtain⟨mX,ab,L⟩:=I.loc;have kX:=S.fr _ h rfl;obtain⟨u,ru,lk⟩:=L t x v J hv (by rcases kX with z|z;exact .inr (.inl z);exact .inr (.inr z));refine⟨u,ru,.inr ⟨?_,c,U,?_⟩⟩
  ·exact gG B
  ·rcases lk with⟨z,_⟩|⟨_,c',Y,q⟩
   ·have z':X.env.scope.names.lookup x=some .local:=z;rcases kX with kX|kX<;>rw[z']at kX<;>cases kX
   ·rw[hX]at Y;cases Y;obtain⟨o,M,O⟩:=q;exact⟨o,old _ o M,O⟩
 ·obtain⟨v,o,M,O⟩:=I.cell x c (g x c e);exact⟨v,o,old _ o M,O⟩
 ·rw[cp]at T;obtain⟨e,n,ne,nf,d⟩:=I.pin p T;refine⟨old _ _ e,n,bB (ar e),fun z=>?_,d⟩;rcases bA.mp (I.stkSub _ z)with q|q
  ·exact ne q
  ·exact nf q
 ·rw[zi];exact S.len.symm
structure wk(X:Cx)(J2:Zd)(H:Hp)(C:Addr):Prop where
 free:H C=none
 loc:C≠X.env.locals
 young:X.s₀.heap.objs.size<=C
 cells:∀x c,X.env.cells.lookup x=some c->c≠C
 pin:∀p∈X.pn++J2,p.1≠C
theorem sw{elt iter tg:Expr}{ifs:List Expr}{scope:Scope}{pos:Pos}{k:Nat}{N:Zb}{fi:List Nat}{cl:List (Str×Addr)}{g:TG}{tc:TT}{te:TE}{it:Addr}{fp:Ze}{tn:Nat->Heap->Prop}{J:It}{s:Hp}{s2:Shared}{Q:VK}
  {E:Zc}{RR:Value->Addr->Result->Shared->Prop}
  (S:mQ X.env.scope scope k N X.N fi) (hc:X.calm=true) (a5:∀x c,cl.lookup x=some c->X.env.cells.lookup x=some c) (b5:∀y∈scope.names,y.2=.free->(cl.lookup y.1).isSome=true)
  (hg:∀C cl G H ex pn,PG (c6 X N scope C cl G H ex pn) tg g) (ho:BT k g) (ht:∀C cl G H ex pn,FV (c6 X N scope C cl G H ex pn) ifs tc) (he:∀C cl G H ex pn,PE (c6 X N scope C cl G H ex pn) elt te)
  (I2:Inv X J2 σ s s2) (T:pY X.prog X.w X.K tg J fp it tn) (a6:tn 0 s2.heap) (f2:∀b∈fp,kJ X J2 s b)
  (hw:∀l,s l=none->∃W:Nat->Nat->List V->Hp->Prop,(∃m,W 0 m [] (upd s l (.lst [])))/\∀i m O s,W i m O s->s l=some (.lst O) /\
   ((J.stop i s/\Q (.ref l) s)∨(J.go i s/\∀x H3,J.yld i s x H3->g x (dX k fi σ) H3 fun σ2 H4=>tc σ2 H4 fun b H5 =>
    if b=true then te σ2 H5 fun v H6=>H6 l=some (.lst O)/\O.length<aj/\∃U,U<m/\W (i+1) U (O++[v]) (upd H6 l (.lst (O++[v])))else ∃U,U<m/\W (i+1) U O H5)))
  (hR:∀D C L s' U,Inv X J2 σ L s'->s'.heap.Ns C U->wk X J2 L C->Q (.ref D) L->RR (.ref D) C (.ok .next) s') :
  wpAny (model X.prog X.w) X.A (newList []) (fun acc s₃=>wpAny (model X.prog X.w) X.A (newFunctionEnv scope X.env.globals cl [] X.env.qual none .none (some X.env)) (fun as s₄ =>
   zzl87 (model X.prog X.w) X.A (.compStart (.ListComp elt [⟨tg,iter,ifs,0⟩] scope pos) 0 (.ref it) acc { as with scope:=relabel scope X.env }) (RR acc as.locals) s₄) E s₃) E s2:=by
 have an:s s2.heap.objs.size=none:=I2.fresh;obtain⟨W,⟨m0,w0⟩,turn⟩:=hw _ an;refine gm (wpAny_newFunctionEnv S.cell (by intro y hy;simp at hy) (fun I ab al=>?_) S.kind);dsimp only at ab al ⊢;have I3:Inv X J2 σ (upd s s2.heap.objs.size (.lst [])) { s2 with heap:=s2.heap.push { cls:=.type "list",data:=.seq ([]:Zf).toArray },toks:=s2.toks }:=I2.lnew (ys:=[]) .nil (dY _);generalize bd:({ s2 with heap:=s2.heap.push { cls:=.type "list",data:=.seq ([]:Zf).toArray },toks:=s2.toks }:Shared)=B at I3;have ap:B.heap=s2.heap.push { cls:=.type "list",data:=.seq ([]:Zf).toArray }:=by rw[<-bd]
 have b6:B.heap.objs.size=s2.heap.objs.size+1:=by rw[ap,gD]
 have bi:∀b∈fp,b<s2.heap.objs.size:=fun b f=>by
  obtain⟨o,e,_⟩:=T.obj 0 _ a6 b f;exact ar e
 have f3:∀b∈fp,kJ X J2 (upd s s2.heap.objs.size (.lst [])) b:=fun b f=>⟨by rw[ah (bB (bi b f))];exact(f2 b f).1,(f2 b f).2⟩;have aC:∀b∈fp,b<B.heap.objs.size:=fun b f=>by rw[b6];exact Nat.lt_succ_of_lt (bi b f)
 have old:∀b o,B.heap.get? b=some o->I.get? b=some o:=fun b o e=>by
  have f:b≠B.heap.objs.size:=bB (ar e);rw[ap]at e f;exact al.extBut b o f (aF _ e)
 have b7:I.Ns B.heap.objs.size (fun x=>([]:List (Str×Value)).reverse.lookup x):=by rw[ap];exact ab
 have I4:Inv (c6 X N scope B.heap.objs.size cl B (upd s s2.heap.objs.size (.lst [])) fp (X.pn++J2)) [] (dX k fi σ) (upd s s2.heap.objs.size (.lst [])) { B with heap:=I,toks:=s2.toks+([]:List (Str×Value)).length } :=
  DK S I3 a5 b5 f3 aC b7 old
 have bl:tn 0 I:=T.keep _ _ _ a6 fun b f o e=>old b o (by rw[ap];exact aF _ e);generalize M:c6 X N scope B.heap.objs.size cl B (upd s s2.heap.objs.size (.lst [])) fp (X.pn++J2)=Y at I4;have yp:Y.prog=X.prog:=by rw[<-M];rfl
 have yw:Y.w=X.w:=by rw[<-M];rfl
 have yK:Y.K=X.K:=by rw[<-M];rfl
 have yA:Y.A=X.A:=by rw[<-M];rfl
 have yx:Y.xe=XF:=by rw[<-M];rfl
 have yc:Y.calm=true:=by rw[<-M];exact hc
 have gY:PG Y tg g:=by rw[<-M];exact hg _ _ _ _ _ _
 have tY:FV Y ifs tc:=by rw[<-M];exact ht _ _ _ _ _ _
 have eY:PE Y elt te:=by rw[<-M];exact he _ _ _ _ _ _
 have bm:Y.env=compEnvC scope cl B.heap.objs.size X.env:=by rw[<-M];rfl
 have fY:∀{L:Hp},(∀b∈fp,L b=none)->∀b∈fp,kJ Y [] L b:=fun hn b f=>by
  obtain⟨f0,f1,bn,bq,f4,f5⟩:=f3 b f;rw[<-M];refine⟨hn b f,bB (aC b f),fun z=>?_,.inl f,fun x c e=>f4 x c (a5 x c e),fun p hp=>?_⟩
  ·rcases bA.mp (I3.stkSub _ z)with q|q
   ·exact f1 q
   ·exact bn q
  ·rw[cp]at hp;exact f5 p hp
 have aN:∀s4:Shared,s4={ B with heap:=I,toks:=s2.toks+([]:List (Str×Value)).length } ->
   zzl87 (model X.prog X.w) X.A (.compLoop (.ListComp elt [⟨tg,iter,ifs,0⟩] scope pos) 0 (.ref it) (.ref s2.heap.objs.size) Y.env) (RR (.ref s2.heap.objs.size) B.heap.objs.size) s4:=by
  rintro s4 rfl;refine vW (fun n s'=>∃i O L,Inv Y [] (dX k fi σ) L s'/\tn i s'.heap/\(∀b∈fp,L b=none)/\W i n O L) ?_ m0 ⟨0,[],_,I4,bl,fun b f=>(f3 b f).1,w0⟩;rintro n s5 ⟨i,O,H5,I5,bz,bI,w5⟩;obtain⟨cB,aT⟩:=turn i n O H5 w5;rcases aT with⟨stop,q⟩|⟨go,step⟩
  ·have d:=T.done Y yp yw yK yc i [] s5 _ H5 XF I5 (fY bI) bz stop;rw[yA]at d;refine bY d fun r s6 a=>?_;obtain⟨hr,I6⟩:=a;subst hr;have hu:Un (sR X.stack) fp (upd s s2.heap.objs.size (.lst [])) H5 B.heap s6.heap:=by have:=I6.base;rw[<-M]at this;exact this
   have b8:s6.os=B.os:=by have:=I6.os;rw[<-M]at this;exact this
   have bS:jp X.prog X.w X.K H5 s6.heap:=by have:=I6.hok;rw[<-M]at this;exact this
   have ce:H5 B.heap.objs.size=none:=by have:=I6.free;rw[<-M]at this;exact this
   obtain⟨m6,b0,_⟩:=I6.loc;have b1:s6.heap.Ns B.heap.objs.size m6:=by rw[<-M]at b0;exact b0
   have IX:Inv X J2 σ H5 s6:=I3.call' b8 hu bS I6.bare fun b f=>by
    obtain⟨f0,f1,bn,bq,f4,f5⟩:=f3 b f;exact⟨bq,f1,f4,f5⟩
   refine hR _ _ H5 s6 m6 IX b1 ⟨ce,cI I3.lt,I3.sz,fun x c e z=>?_,fun p hp z=>?_⟩ q
   ·obtain⟨v,o,ho,_⟩:=I3.cell x c e;exact absurd (ar ho) (by rw[z];exact jQ _)
   ·exact absurd (ar (I3.pin p hp).1) (by rw[z];exact jQ _)
  ·have d:=T.item Y yp yw yK yc i [] s5 _ H5 XF I5 (fY bI) bz go;rw[yA]at d;refine bY d fun r s6 a=>?_;obtain⟨u,hr,h6⟩:=a;subst hr;refine bY h6 fun _ s7 a=>?_;obtain⟨x,H7,I7,r7,y7,aX,ch⟩:=a;have ci:=I7.pinned (fY ch) (T.obj _ _ aX);have a7:=gY _ s7 _ H7 x u _ ci r7 (ho _ _ _ _ (step x H7 y7));rw[yp,yw,yA,yx]at a7;refine bY a7 fun _ s8 a=>?_;obtain⟨σ8,H8,I8,q8,l8,k8⟩:=a;have a8:=tY _ s8 σ8 H8 _ I8 q8;rw[yp,yw,yA,yx]at a8;have again:∀{H9:Hp}{s9:Shared}{a0:List V}{U:Nat},Inv Y ([]++o5 fp s7.heap) σ8 H9 s9->U<n->W (i+1) U a0 H9->∃m,m<n/\∃i O L,Inv Y [] (dX k fi σ) L s9/\tn i s9.heap/\(∀b∈fp,L b=none)/\W i m O L:=fun{H9 s9 a0 U} I9 hm w9=>by
    refine⟨U,hm,i+1,a0,H9,(I9.unpinned).weak l8.symm (fun j v e=>?_),T.keep _ _ _ aX fun b f o e=>(I9.pin (b,o) (dA _ (dA _ (fM f e)))).1,fun b f=>?_,w9⟩
    ·obtain⟨j',t,rfl,_,_⟩:=sy e;rw[k8 _ (rc _ _)];exact e
    ·obtain⟨o,e,_⟩:=T.obj _ _ aX b f;exact(I9.pin (b,o) (dA _ (dA _ (fM f e)))).2.1
   refine bY a8 fun b s9 a=>?_;obtain⟨H9,I9,q9⟩:=a;cases b with
   |false =>
    rw[if_neg fX]at q9 ⊢;obtain⟨U,hm,w9⟩:=q9;exact again I9 hm w9
   |true =>
    rw[if_pos rfl]at q9 ⊢;have a9:=eY _ s9 σ8 H9 _ I9 q9;rw[yp,yw,yA,yx]at a9;refine bY a9 fun y ck a=>?_;obtain⟨v,b2,cm,cn,b3,a4,U,hm,co⟩:=a;have b4:=df (X:=Y) _ ck σ8 b2 (.ref s2.heap.objs.size) [v] (.ref s2.heap.objs.size) [y] (fun z L=>z=.non/\L=upd b2 s2.heap.objs.size (.lst (O++[v]))) cm rfl (.cons cn .nil) ⟨_,O,v,rfl,rfl,b3,a4,rfl,rfl⟩;rw[yp,yw,yA,yx]at b4;refine bY b4 fun _ cC a=>?_;obtain⟨_,c0,cs,_,_,ct⟩:=a;subst ct;exact again cs hm co
 have h:=codeAny_compStart_list (prog:=X.prog) (w:=X.w) (A:=X.A) (elt:=elt) (target:=tg) (iter:=iter) (ifs:=ifs) (rest:=[]) (scope:=scope) (pos:=pos) (it:=.ref it) (acc:=.ref s2.heap.objs.size) (env:=Y.env) (aN _ rfl) (T.self _ 0 _ _ _ bl (aN _ rfl));rw[bm]at h;rw[<-bd]at h;exact h
end
section
variable{X:Cx}
theorem wk.turned{a:Zd}{σ:St}{H:Hp}{s:Shared}{C:Addr}{h':Heap}(c:wk X a H C)(I:Inv X a σ H s)(d:dP C s.heap h'):Inv X a σ H { s with heap:=h' } :=
 I.turned (t':=s.toks) (fun b o f e=>d.extBut b o f e) c.free c.loc (.inr c.young) c.cells c.pin
theorem EQ{l f o:Expr}{m:List Expr}{scope:Scope}{p:Pos}{k:Nat}{N:Zb}{E:List Nat}{G:TI}{g:TG}{L:TT}{M:TE}(U:k_ X.env.scope scope k N X.N E=true)(Y:X.calm=true)(hi:PI X o f G)
  (hg:∀C j a d ex n,PG (c6 X N scope C j a d ex n) o g) (ho:BT k g) (ht:∀C j a d ex n,FV (c6 X N scope C j a d ex n) m L) (he:∀C j a d ex n,PE (c6 X N scope C j a d ex n) l M)
  (hs:∀x,tL f X.env x=pure x:=by intro _;rfl):PE X (.ListComp l [⟨o,f,m,0⟩] scope p) (gF k E G g L M):=by
 intro O s σ H Q I h;have S:=mQ.of U;obtain⟨j,i,r,t⟩:=sC (env:=X.env) (scope:=scope) fun y hy e=>I.ok.has y.1 (S.fr y hy e);rw[eval_ListComp];refine wpAny_comprehension_free (use:=none) rfl hs i S.kind S.nm (bY (hi O s σ H _ I h) fun v s1 h1=>bY h1 fun ab s2 h2=>?_);obtain⟨it,fp,tn,J,H2,e,I2,T,u,f2,hw⟩:=h2;subst e;refine sw (RR:=fun z C=>compPost (model X.prog X.w) X.A X.xe none (EP X O σ Q) z C) S Y r t hg ho ht he I2 T u f2 hw ?_;intro D C H' s' m' I' hn ce q;exact⟨m',hn,fun h' B=>⟨.ref D,H',ce.turned I' B,rfl,q⟩⟩
theorem yI{l d u:Expr}{m:List Expr}{scope:Scope}{o n r:Pos}{k:Nat}{N:Zb}{fi:List Nat}{wi:TI}{g:TG}{tc:TT}{te:TE}{j:Nat}{y:Str}(hN:X.N.Nodup)(hj:X.N[j]?=some y)(G:Loc X.env.scope y)(hS:k_ X.env.scope scope k N X.N fi=true)(hc:X.calm=true)(hi:PI X u d wi)
  (hg:∀C t f i ex B,PG (c6 X N scope C t f i ex B) u g) (ho:BT k g) (ht:∀C t f i ex B,FV (c6 X N scope C t f i ex B) m tc) (he:∀C t f i ex B,PE (c6 X N scope C t f i ex B) l te)
  (L:jX (.ListComp l [⟨u,d,m,0⟩] scope o) (some (.Name y r)) n.line X.env=pure true:=by rfl)
  (hs:∀x,tL d X.env x=pure x:=by intro _;rfl) (hf:X.fn y=true∨X.env.scope.names.lookup y=some .local:=by first|exact .inl rfl|exact .inr rfl|assumption) :
  PS X (.Assign [.Name y r] (.ListComp l [⟨u,d,m,0⟩] scope o) n) (a_ (gF k fi wi g tc te) (cT j)):=by
 intro M s σ H D I h;have S:=mQ.of hS;obtain⟨t,p,O,U⟩:=sC (env:=X.env) (scope:=scope) fun y G e=>I.ok.has y.1 (S.fr y G e);rw[exec_Assign_Name_used _ _ _ _ L];refine ac (wq (ac ?_));show wpAny _ X.A (do let _ <- comprehension (.ListComp l [⟨u,d,m,0⟩] scope o) scope X.env _ (newList []) false (eval d X.env) (some (assign (.Name y r) X.env))) _ _ s
 refine ac (bV (wpAny_comprehension_free (use:=some (assign (.Name y r) X.env)) (Q:=fun _ E=>SP X M D .next E) rfl hs p S.kind S.nm
  (bY (hi M s σ H _ I h) fun v s1 h1=>bY h1 fun aN s2 h2=>?_)) (fun _ E hq=>ak (ak hq)) fun _ _ e=>e)
 obtain⟨it,fp,tn,J,H2,e,I2,T,Y,f2,hw⟩:=h2;subst e;refine sw (RR:=fun ab C=>compPost (model X.prog X.w) X.A X.xe (some (assign (.Name y r) X.env)) (fun _ E=>SP X M D .next E) ab C) (Q:=fun x H1=>cT j x σ H1 D.nx) S hc O U hg ho ht he I2 T Y f2 hw ?_;intro A C H' E m' I' hn ce q;show wpAny _ X.A (assign (.Name y r) X.env (.ref A)) _ _ _;refine wpAny_assign_Name (ub I' hN hj G (v:=.ref A) rfl (fun aT al an=>?_) hf);obtain⟨a,ap,ha⟩:=an;have as:C≠a:=by
  rcases ha with z|z
  ·rw[z];exact ce.loc
  ·exact br (ce.cells y a z)
 refine⟨m',hn.sameBut ap as,fun h' aC=>?_⟩;exact⟨_,H',ce.turned al aC,q⟩
end
theorem Inv.turnedNew{X:Cx}{h:Zd}{σ:St}{H:Hp}{s:Shared}{f:Heap}{l:Nat}{ch:Ze}{o:HO}(I:Inv X h σ H s)(hf:∀b∈ch,kJ X h H b)
  (k:∀b q,b∉ch->s.heap.get? b=some q->f.get? b=some q) (J:∃q,f.get? s.heap.objs.size=some q) (p:∀y,o≠.own y) (new:aZ X.prog X.w X.K (upd H s.heap.objs.size o) f s.heap.objs.size o) :
  Inv X h σ (upd H s.heap.objs.size o) { s with heap:=f,toks:=l }:=by
 have a:H s.heap.objs.size=none:=I.fresh;have i:∀b q,s.heap.get? b=some q->b≠s.heap.objs.size:=fun b q e=>bB (ar e);have j:∀b u,H b=some u->b∉ch:=fun b u e z=>by rw[(hf b z).1]at e;cases e
 refine I.step (g':=s.gens) (d':=s.drawn) (ch:=ch) (fun b g=>?_) (fun b q _ _ d e _=>k b q d e) (fun b q _ _ d e _=>⟨q.slots,k b q d e⟩) (fun b q _ e n=>by rw[ah (i b q e)];exact n) (fun b q d e=>⟨q,k b q d e⟩)
  (fun b xs e=>by rw[ah (ae e a)];exact e) (fun b q u e=>by rw[ah (ae e a)];exact e) (fun b L e=>⟨#[],by rw[ah (ae e a),e];simp⟩) (fun m t=>?_) (fun b u e=>?_) I.bare
 ·obtain⟨M,x,N,A,B,C⟩:=hf b g;exact⟨A,x,B,C⟩
 ·obtain⟨q,D,E,G,r⟩:=t;exact⟨q,D,E,k _ q (fun z=>(hf _ z).2.1 rfl) G,r⟩
 ·by_cases g:b=s.heap.objs.size
  ·subst g;rw[aa]at e;cases e;exact new
  ·rw[ah g]at e;refine(I.hok b u e).stay (fun c v d q=>k c v ?_ q) (fun c q=>by rw[ah (ae q a)];exact q) fun c xs q=>by rw[ah (ae q a)];exact q
   rcases d with z|z
   ·subst z;exact j _ _ e
   ·exact j _ _ z
def HE(K:Za)(a:Addr):It :=
 ⟨fun i H=>∃xs x,aH K H a xs/\xs[i]?=some x,fun i H x H'=>∃p v,x=.ref p/\H p=none/\(∀xs,aH K H a xs->xs[i]?=some v)/\H'=upd H p (.tup [.int i,v]),fun i H=>∃xs,aH K H a xs/\xs.length<=i⟩
theorem A7{P:aU}{w:World}{K:Za}{es:List Expr}{kx:Nat}{J7:Pos}(a e it:Addr)(l:e≠it):
  pY P w K (.Tuple es kx J7) (HE K a) [e,it] e (fun i h=>(∃old,IsEnum h e it i old)/\h.IsListIter it a i) where
 mem:=by simp
 obj:=fun i h st b j=>by
  obtain⟨⟨old,f⟩,o,C,D,hd⟩:=st;rcases bA.mp j with z|z
  ·subst z;exact⟨_,f,fun v z=>by cases z⟩
  ·have G:b=it:=by simpa using z
   subst G;exact⟨o,C,fun v z=>by rw[hd]at z;cases z⟩
 keep:=fun i h A st k=>⟨let⟨old,f⟩:=st.1;⟨old,k e (by simp) _ f⟩,st.2.at fun o e=>k it (by simp) o e⟩
 item:=by
  intro X J L M D i J2 s σ H E I hf st N;subst J L M;obtain⟨⟨old,f⟩,g⟩:=st;obtain⟨xs,x,B,hx⟩:=N;obtain⟨O,Q,p,hz⟩:=I.list B;obtain⟨u,hu,ru⟩:=Q.get hx;obtain⟨e0,e1,e2,e3,e4,e5⟩:=hf e (by simp);obtain⟨T,f1,f2,f3,f4,f5⟩:=hf it (by simp);refine wpAny_pyNext_enum_item f g p.isList (x:=u) (by simpa using hu) l fun A U m Y aX ab=>?_;refine⟨_,rfl,wpAny_letOwnedTupleGo_enum (s:={ s with heap:=A,toks:=s.toks+1 }) U fun h2 al an=>?_⟩;have d:dP e A h2:=an;have n:s.heap.objs.size≠e:=cI (ar f);have r:h2.get? s.heap.objs.size=some { cls:=.type "tuple",data:=.seq #[.int i s.toks,u] }:=d.extBut _ _ n Y;have ap:H s.heap.objs.size=none:=I.fresh;have as:upd H s.heap.objs.size (.tup [.int i,x]) e=none:=by rw[ah (br n)];exact e0
  have aC:s.heap.objs.size≠it:=by
   obtain⟨o,C,_⟩:=g;exact cI (ar C)
  have aN:upd H s.heap.objs.size (.tup [.int i,x]) it=none:=by rw[ah (br aC)];exact T
  have I2:Inv X J2 σ (upd H s.heap.objs.size (.tup [.int i,x])) { s with heap:=h2,toks:=s.toks+1 }:=by
   refine I.turnedNew (ch:=[e,it]) hf (fun b o j q=>?_) ⟨_,r⟩ (fun _ z=>nomatch z) ⟨by show 2<=aj;decide,[.int i s.toks,u],.cons ⟨_,rfl⟩ (.cons ru .nil),⟨_,r,rfl,_,rfl⟩⟩;have t:b≠e:=fun z=>j (by simp[z]);have aT:b≠it:=fun z=>j (by simp[z]);exact d.extBut _ _ t (ab b o t aT q)
  refine⟨.ref s.heap.objs.size,_,I2,rfl,⟨_,x,rfl,ap,fun ys hy=>by rw[I.list_inj hy B];exact hx,rfl⟩,⟨⟨u,by simpa using al⟩,m.at fun o y=>(d.2 it (br l)).trans y⟩,fun b j=>?_⟩;rcases bA.mp j with z|z
  ·subst z;exact as
  ·have G:b=it:=by simpa using z
   subst G;exact aN
 done:=by
  intro X J L M D i J2 s σ H E I hf st N;subst J L M;obtain⟨⟨old,f⟩,g⟩:=st;obtain⟨xs,B,hx⟩:=N;obtain⟨O,Q,p,hz⟩:=I.list B;obtain⟨T,f1,f2,f3,f4,f5⟩:=hf it (by simp);have hl:=Q.length;exact wpAny_pyNext_enum_end (I.ok.hd D) f g p.isList (by simp;omega) fun A eb=>⟨rfl,I.turned (t':=s.toks) (fun b o j e=>eb b o j e) T f1 f3 f4 f5⟩
 self:=fun _ _ _ _ _ st h=>let⟨_,f⟩:=st.1;wpAny_pyIter_enum f h
section
variable{X:Cx}{p pos:Pos}{es:List Expr}{kx:Nat}{J7:Pos}
def xz(K:Za)(ta:TA):TI:=fun σ H R=>ta σ H fun vs H1=>∃a,vs=[.ref a]/\(∃xs,aH K H1 a xs)/\R (HE K a) H1
theorem qt{a:Expr}{m:TA}(v:Gl X "enumerate")(w:X.mg "enumerate"=none)(x:PA X [a] m)(y:aq [a] X.env=[(false,eval a X.env)]:=by rfl):PI X (.Tuple es kx J7) (.Call (.Name "enumerate" p) [a] [] pos) (xz X.K m):=by
 intro n s σ H R I h;refine Call_ (jE I v w boot_enumerate (tM (bY (x pos n s σ H _ I h) fun Q s1 g=>?_) y rfl));obtain⟨T,r,f,A,B⟩:=g;obtain⟨l,e,⟨xs,C⟩,q⟩:=B;subst e;obtain⟨u,rfl,D⟩:=vals1 A;cases D;obtain⟨E,U,G,Y⟩:=f.list C;refine call_enumerate_list G.isList fun i t j J L=>?_;refine wpAny_pyIter_enum (s:={ s1 with heap:=i }) t ?_;have k:∀b o,s1.heap.get? b=some o->i.get? b=some o:=L;have M:Inv X n σ r { s1 with heap:=i }:=f.kept (t':=s1.toks) k;refine⟨_,[s1.heap.objs.size+1,s1.heap.objs.size],_,_,r,rfl,M,A7 l _ _ (Nat.succ_ne_self _),⟨⟨_,t⟩,j⟩,fun b N=>?_,q⟩;have d:s1.heap.objs.size<=b:=by
  rcases bA.mp N with z|z
  ·rw[z];exact iW _
  ·have O:b=s1.heap.objs.size:=by simpa using z
   rw[O];exact az _
 exact f.fpOk d (f.hok.fresh d)
end
def HY(x:Str):It:=⟨fun i _=>i<x.cps.size,fun i H y H'=>H'=H/\∃c,x.cps[i]?=some c/\y=.str ⟨#[c]⟩,fun i _=>x.cps.size<=i⟩
theorem yb{P:aU}{w:World}{K:Za}{D:Expr}(x:Str)(t:Tok)(it:Addr):pY P w K D (HY x) [it] it (fun i h=>h.IsStrIter it "str_ascii_iterator" x t i) where
 mem:=by simp
 obj:=fun i h st b a=>by
  have e:b=it:=by simpa using a
  subst e;obtain⟨o,e,c,d⟩:=st;exact⟨o,e,fun v z=>by rw[d]at z;cases z⟩
 keep:=fun i h g st k=>by
  obtain⟨o,e,c,d⟩:=st;exact⟨o,k it (by simp) o e,c,d⟩
 item:=by
  intro X j l m B i C s σ H E I hf st n;subst j l m;have p:i<x.cps.size:=n;obtain⟨q,r,G,u,y,A⟩:=hf it (by simp);have hx:x.cps[i]?=some x.cps[i]:=by simp[p]
  refine wpAny_pyNext_ascii_item st hx fun g f J=>?_;have L:Inv X C σ H { s with heap:=g,toks:=s.toks+1 }:=I.turned (t':=s.toks+1) (fun b o a e=>(J.2 b a).trans e) q r u y A;obtain⟨o,e,c,d⟩:=id f;exact⟨_,rfl,uu (s:={ s with heap:=g,toks:=s.toks+1 }) e c d (by decide) ⟨.str ⟨#[x.cps[i]]⟩,H,L,⟨_,rfl⟩,⟨rfl,_,hx,rfl⟩,f,fun b a=>(hf b a).1⟩⟩
 done:=by
  intro X j l m B i C s σ H E I hf st n;subst j l m;have M:x.cps.size<=i:=n;obtain⟨q,r,G,u,y,A⟩:=hf it (by simp);exact wpAny_pyNext_ascii_end (I.ok.hd B) st (by simp;omega) fun g N=>⟨rfl,I.turned (t':=s.toks) (fun b o a e=>N b o a e) q r u y A⟩
 self:=fun _ _ _ _ _ st h=>wpAny_pyIter_striter_ascii st h
theorem A6{P:aU}{w:World}{K:Za}{D:Expr}(x:Str)(t:Tok)(it:Addr):pY P w K D (HY x) [it] it (fun i h=>h.IsStrIter it "str_iterator" x t i) where
 mem:=by simp
 obj:=fun i h st b a=>by
  have e:b=it:=by simpa using a
  subst e;obtain⟨o,e,c,d⟩:=st;exact⟨o,e,fun v z=>by rw[d]at z;cases z⟩
 keep:=fun i h g st k=>by
  obtain⟨o,e,c,d⟩:=st;exact⟨o,k it (by simp) o e,c,d⟩
 item:=by
  intro X j l m B i C s σ H E I hf st n;subst j l m;have p:i<x.cps.size:=n;obtain⟨q,r,G,u,y,A⟩:=hf it (by simp);have hx:x.cps[i]?=some x.cps[i]:=by simp[p]
  refine wpAny_pyNext_wide_item st hx fun g f J=>?_;have L:Inv X C σ H { s with heap:=g,toks:=s.toks+1 }:=I.turned (t':=s.toks+1) (fun b o a e=>(J.2 b a).trans e) q r u y A;obtain⟨o,e,c,d⟩:=id f;exact⟨_,rfl,uu (s:={ s with heap:=g,toks:=s.toks+1 }) e c d (by decide) ⟨.str ⟨#[x.cps[i]]⟩,H,L,⟨_,rfl⟩,⟨rfl,_,hx,rfl⟩,f,fun b a=>(hf b a).1⟩⟩
 done:=by
  intro X j l m B i C s σ H E I hf st n;subst j l m;have M:x.cps.size<=i:=n;obtain⟨q,r,G,u,y,A⟩:=hf it (by simp);exact wpAny_pyNext_wide_end (I.ok.hd B) st (by simp;omega) fun g N=>⟨rfl,I.turned (t':=s.toks) (fun b o a e=>N b o a e) q r u y A⟩
 self:=fun _ _ _ _ _ st h=>wpAny_pyIter_striter_wide st h
section
variable{X:Cx}{p pos:Pos}{tg:Expr}
def Hs(tl:TE):TI:=fun σ H R=>tl σ H fun v H1=>∃x,v=.str x/\R (HY x) H1
theorem Gj{l:Expr}{j:TE}(n:PE X l j):PI X tg l (Hs j):=by
 intro k s σ H R I h;refine bY (n k s σ H _ I h) fun v a g=>?_;obtain⟨y,i,f,r,u⟩:=g;obtain⟨x,e,q⟩:=u;subst e;obtain⟨t,rfl⟩:=r;have d:∀b∈[a.heap.objs.size],kJ X k i b:=fun b w=>by
  have e:b=a.heap.objs.size:=by simpa using w
  subst e;exact f.fpOk (az _) (f.hok.fresh (az _))
 cases m:x.cps.all (·<128)
 ·refine wpAny_pyIter_wide m ?_;exact⟨a.heap.objs.size,[a.heap.objs.size],_,_,i,rfl,f.kept (t':=a.toks) fun b o e=>aF _ e,A6 x t _,⟨_,bF _ rfl,rfl,rfl⟩,d,q⟩
 ·refine wpAny_pyIter_ascii m ?_;exact⟨a.heap.objs.size,[a.heap.objs.size],_,_,i,rfl,f.kept (t':=a.toks) fun b o e=>aF _ e,yb x t _,⟨_,bF _ rfl,rfl,rfl⟩,d,q⟩
end
def HD(K:Za)(a b:Addr):It :=
  ⟨fun i H=>∃xs ys x y,aH K H a xs/\aH K H b ys/\xs[i]?=some x/\ys[i]?=some y,
   fun i H x H'=>∃p u v,x=.ref p/\H p=none/\(∀xs,aH K H a xs->xs[i]?=some u)/\(∀ys,aH K H b ys->ys[i]?=some v)/\H'=upd H p (.tup [u,v]),
   fun i H=>∃xs ys,aH K H a xs/\aH K H b ys/\(xs.length<=i∨ys.length<=i)⟩
theorem Cc{P:aU}{w:World}{K:Za}{es:List Expr}{kx:Nat}{J7:Pos}(a b z TI TO t A:Addr)(D:fE z TI TO t A a b):
  pY P w K (.Tuple es kx J7) (HD K a b) [z,TI,TO,t,A] z (fun i h=>IsZip h z TI TO .none/\IsPair h TI (.ref t) (.ref A)/\(∃a b,IsPair h TO a b)/\h.IsListIter t a i/\h.IsListIter A b i) where
 mem:=by simp
 obj:=fun i h st c f=>by
  obtain⟨p,j,⟨u,v,l⟩,G,J⟩:=st;simp only[bA,iU,or_false]at f;rcases f with rfl|rfl|rfl|rfl|rfl
  ·exact⟨_,p,fun v z=>by cases z⟩
  ·exact⟨_,j,fun v z=>by cases z⟩
  ·exact⟨_,l,fun v z=>by cases z⟩
  ·obtain⟨o,e,c,d⟩:=G;exact⟨o,e,fun v z=>by rw[d]at z;cases z⟩
  ·obtain⟨o,e,c,d⟩:=J;exact⟨o,e,fun v z=>by rw[d]at z;cases z⟩
 keep:=fun i h M st k=>by
  obtain⟨p,j,⟨u,v,l⟩,G,J⟩:=st;exact⟨k z (by simp) _ p,k TI (by simp) _ j,⟨u,v,k TO (by simp) _ l⟩,G.at fun o e=>k t (by simp) o e,J.at fun o e=>k A (by simp) o e⟩
 item:=by
  intro X hP hw hK f i J2 s σ H E I hf st hg;subst hP hw hK;obtain⟨p,j,⟨u0,v0,l⟩,G,J⟩:=st;obtain⟨xs,ys,x,y,B,C,hx,hy⟩:=hg;obtain⟨an,rx,px,zx⟩:=I.list B;obtain⟨ap,ry,py,zy⟩:=I.list C;obtain⟨u,hu,ru⟩:=rx.get hx;obtain⟨v,hv,rv⟩:=ry.get hy;refine wpAny_pyNext_zip_item D p j l G J px.isList py.isList (x:=u) (y:=v) (by simpa using hu) (by simpa using hv) fun M a1 a2 a3 a4 a5 a6 hk=>?_;refine⟨_,rfl,wpAny_letOwnedTupleGo_zip (s:={ s with heap:=M }) a1 fun L as aC=>?_⟩;have g:dP z M L:=aC;have N:s.heap.objs.size≠z:=cI (ar p);have O:s.heap.objs.size≠TO:=cI (ar l);have Q:s.heap.objs.size≠TI:=cI (ar j);have T:s.heap.objs.size≠t:=by obtain⟨o,U,_⟩:=G;exact cI (ar U)
  have Y:s.heap.objs.size≠A:=by obtain⟨o,U,_⟩:=J;exact cI (ar U)
  have ab:IsPair L s.heap.objs.size u v:=g.extBut _ _ N a5;have I2:Inv X J2 σ (upd H s.heap.objs.size (.tup [x,y])) { s with heap:=L,toks:=s.toks }:=by
   refine I.turnedNew (ch:=[z,TI,TO,t,A]) hf (fun c o f q=>?_) ⟨_,ab⟩ (fun _ z=>nomatch z) ⟨by show 2<=aj;decide,[u,v],.cons ru (.cons rv .nil),⟨_,ab,rfl,_,rfl⟩⟩;have n1:c≠z:=fun q=>f (by simp[q]);exact g.extBut _ _ n1 (hk c o n1 (fun q=>f (by simp[q])) (fun q=>f (by simp[q])) (fun q=>f (by simp[q])) q)
  refine⟨.ref s.heap.objs.size,_,I2,rfl,⟨_,x,y,rfl,I.fresh,fun zs p=>by rw[I.list_inj p B];exact hx,fun zs p=>by rw[I.list_inj p C];exact hy,rfl⟩,⟨as,g.extBut _ _ D.TIz (hk _ _ D.TIz D.TITO D.TIi1 D.TIi2 j),⟨_,_,g.extBut _ _ D.TOz a2⟩,a3.at fun o e=>g.extBut _ _ D.i1z e,a4.at fun o e=>g.extBut _ _ D.i2z e⟩,fun c f=>?_⟩;have aN:=(hf c f).1;simp only[bA,iU,or_false]at f;have ne:c≠s.heap.objs.size:=by
   rcases f with rfl|rfl|rfl|rfl|rfl
   ·exact N.symm
   ·exact Q.symm
   ·exact O.symm
   ·exact T.symm
   ·exact Y.symm
  rw[ah ne];exact aN
 done:=by
  intro X hP hw hK f i J2 s σ H E I hf st hg;subst hP hw hK;obtain⟨p,j,⟨u0,v0,l⟩,G,J⟩:=st;obtain⟨xs,ys,B,C,al⟩:=hg;obtain⟨an,rx,px,zx⟩:=I.list B;obtain⟨ap,ry,py,zy⟩:=I.list C;have lx:=rx.length;have ly:=ry.length;refine wpAny_pyNext_zip_end (I.ok.hd f) D p j l G J px.isList py.isList (by rcases al with q|q;exact .inl (by simp;omega);exact .inr (by simp;omega)) fun M hk=>⟨rfl,?_⟩;have tr:∀c q,H c=some q->c∉[z,TI,TO,t,A]:=fun c q e m=>by rw[(hf c m).1]at e;cases e
  have kk:∀c o,c∉[z,TI,TO,t,A]->s.heap.get? c=some o->M.get? c=some o:=fun c o f q=>hk c o (fun q=>f (by simp[q])) (fun q=>f (by simp[q])) (fun q=>f (by simp[q])) (fun q=>f (by simp[q])) q;refine I.step (g':=s.gens) (d':=s.drawn) (t':=s.toks) (ch:=[z,TI,TO,t,A]) (fun c f=>?_) (fun c o _ _ f e _=>kk c o f e) (fun c o _ _ f e _=>⟨o.slots,kk c o f e⟩) (fun _ _ _ _ n=>n) (fun c o f e=>⟨o,kk c o f e⟩) (fun _ _ e=>e) (fun _ _ _ e=>e) (fun c ps e=>⟨#[],by rw[e];simp⟩) (fun m hm=>?_) (fun c q e=>?_) I.bare
  ·obtain⟨f0,f1,f2,f3,f4,f5⟩:=hf c f;exact⟨f3,f1,f4,f5⟩
  ·obtain⟨q,aT,ep,U,r⟩:=hm;exact⟨q,aT,ep,kk _ q (fun z=>(hf _ z).2.1 rfl) U,r⟩
  ·refine(I.hok c q e).stay (fun d v hd q'=>kk d v ?_ q') (fun _ q=>q) fun _ _ q=>q;rcases hd with z|z
   ·subst z;exact tr _ _ e
   ·exact tr _ _ z
 self:=fun _ _ _ _ _ st h=>q_ st.1 h
section
variable{prog:aU}{w:World}{A:Around}{E:Zc}{s:Shared}
theorem jD{it t:Addr}{i:Nat}{items:Array Value}{x:Value}{Q:Zc}(st:s.heap.IsTupleIter it t i)(f:s.heap.IsTuple t items)(hx:items[i]?=some x)
  (k:∀e,e.IsTupleIter it t (i+1)->dP it s.heap e->Q x { s with heap:=e }):wpAny (model prog w) A (gl (.ref it)) Q E s:=by
 obtain⟨l,d,g,a⟩:=id st;obtain⟨m,h,_,n,j⟩:=f;unfold gl;refine ac (iT (name:=hG "__next__") st.typeIs u7
  (lm u7 st.typeIs F.entry_tuple_iterator_next ?_ (F.args_tuple_iterator_next_1 _)))
 show wpAny _ _ (field (.ref it) 0 >>= _) _ _ s;refine ac (be d a (x:=.ref t) rfl ?_);show wpAny _ _ (if(Value.ref t==Value.none)=true then _ else _) _ _ s
 rw[if_neg (show ¬((Value.ref t==Value.none)=true)from fX)];show wpAny _ _ (field (.ref it) 1 >>= _) _ _ s;refine ac (be d a (x:=.int i 0) rfl ?_);show wpAny _ _ (seqItems? (.ref t) >>= _) _ _ s;refine ac (i9 h j ?_);simp only[eW,hx];refine ac (iS d a (by simp) (ak ⟨x,rfl,ak (k _ ?_ (j6 ..))⟩));exact⟨_,eU _ d (oB (iR a _)),(Obj.cls_mapFields ..).trans g,by
  rw[iR a];simp[rawInt]⟩
theorem pH{it t:Addr}{i:Nat}{items:Array Value}{Q:Zc}(h:A.handled=none)(st:s.heap.IsTupleIter it t i)(j:s.heap.IsTuple t items)(hx:items[i]?=none)
  (k:∀d e,Heap.ExtBut it s.heap d->(∃o,d.get? e=some o/\o.cls=.type "StopIteration")->E (.ref e) { s with heap:=d }):wpAny (model prog w) A (gl (.ref it)) Q E s:=by
 obtain⟨p,f,q,g⟩:=id st;obtain⟨r,l,_,u,n⟩:=j;unfold gl;refine ac (iT (name:=hG "__next__") st.typeIs u7
  (lm u7 st.typeIs F.entry_tuple_iterator_next ?_ (F.args_tuple_iterator_next_1 _)))
 show wpAny _ _ (field (.ref it) 0 >>= _) _ _ s;refine ac (be f g (x:=.ref t) rfl ?_);show wpAny _ _ (if(Value.ref t==Value.none)=true then _ else _) _ _ s
 rw[if_neg (show ¬((Value.ref t==Value.none)=true)from fX)];show wpAny _ _ (field (.ref it) 1 >>= _) _ _ s;refine ac (be f g (x:=.int i 0) rfl ?_);show wpAny _ _ (seqItems? (.ref t) >>= _) _ _ s;refine ac (i9 l n ?_);simp only[eW,hx];refine ac (mZ (ac (iS f g (by simp) ?_)));show wpAny _ _ (newExc (.type "StopIteration") [] >>= _) _ _ _;refine ac ?_;simp only[newExc,newTuple];refine ac (gm ?_ (by size_fits));refine ac (m:=oA _ _) (wpAny_of_eq (a:=Value.none) (by first|rfl|(simp only[oA];rfl)) ?_)
 refine gm ?_ (by size_fits);simp only[raiseNew];refine ac (wpAny_handled ?_)
 first|rw[show A.in1.handled=none from h] | rw[h]
 refine ac (ak (wpAny_throw ?_));exact k _ _ (((j6 ..).extBut.push _).push _) ⟨_,bF _ rfl,rfl⟩
theorem A4{z TI TO J L l1 l2:Addr}{k1 k2:Nat}{xs ys:Array Value}{x y a b:Value}{Q:Zc}(D:fE z TI TO J L l1 l2)
  (gz:IsZip s.heap z TI TO .none) (gI:IsPair s.heap TI (.ref J) (.ref L)) (gO:IsPair s.heap TO a b)
  (g1:s.heap.IsTupleIter J l1 k1) (g2:s.heap.IsTupleIter L l2 k2) (t1:s.heap.IsTuple l1 xs) (t2:s.heap.IsTuple l2 ys) (hx:xs[k1]?=some x) (hy:ys[k2]?=some y)
  (k:∀M,IsZip M z TI TO (rawInt s.heap.objs.size)->IsPair M TO x y->M.IsTupleIter J l1 (k1+1)->M.IsTupleIter L l2 (k2+1)->IsPair M s.heap.objs.size x y->M.objs.size=s.heap.objs.size+1 ->
   (∀c o,c≠z->c≠TO->c≠J->c≠L->s.heap.get? c=some o->M.get? c=some o)->Q (.ref s.heap.objs.size) { s with heap:=M }) :
  wpAny (model prog w) A (aS.«zip.__next__» ⟨[.ref z],[]⟩) (fun aC s'=>∃v,aC=.done (.ret v)/\Q v s') E s:=by
 show wpAny _ _ (field (.ref z) 2 >>= _) _ _ _;refine ac (be gz rfl (x:=.bool false) rfl ?_);show wpAny _ _ (field (.ref z) 3 >>= _) _ _ _;refine ac (be gz rfl (x:=.ref TI) rfl ?_);refine ac (i9 gI rfl ?_);show wpAny _ _ (j5 (.ref z) >>= _) _ _ _;refine ac ?_;unfold j5;refine ac (be gz rfl (x:=.none) rfl (ak ?_));simp only[if_true];refine ac (mZ ?_);refine ac (be gz rfl (x:=.ref TO) rfl ?_);refine ac (gk gz (by simp) fun m₁ p f=>?_)
 replace p:IsZip m₁ z TI TO .ellipsis:=p
 refine ac ?_;simp only[List.zipIdx_cons,List.zipIdx_nil,lU,u6];refine ac (ac (qZ ?_));show wpAny _ _ (gl (.ref J) >>= _) _ _ _;refine ac (jD (g1.extBut f.extBut D.i1z) (t1.extBut f.extBut D.l1z) hx fun m₂ N g=>ak ?_);have u:IsPair m₂ TO a b:=g.extBut _ _ D.TOi1 (f.extBut _ _ D.TOz gO);refine ac (i9 u rfl ?_);refine ac (wpAny_updateSeq_pair u fun m₃ q h=>?_)
 replace q:IsPair m₃ TO x b:=q
 refine ac (oz (ak ?_));refine ac (ac (qZ ?_));show wpAny _ _ (gl (.ref L) >>= _) _ _ _;refine ac (jD (((g2.extBut f.extBut D.i2z).extBut g.extBut D.i12.symm).extBut h.extBut D.TOi2.symm)
  (((t2.extBut f.extBut D.l2z).extBut g.extBut D.l2i1).extBut h.extBut D.l2TO) hy fun m₄ O l=>ak ?_)
 have B:IsPair m₄ TO x b:=l.extBut _ _ D.TOi2 q;refine ac (i9 B rfl ?_);refine ac (wpAny_updateSeq_pair B fun d i m=>?_)
 replace i:IsPair d TO x y:=i
 refine ac (oz (ak (ak ?_)));refine ac (i9 i rfl ?_);refine ac (wpAny_newTuple ?_);have an:d.objs.size=s.heap.objs.size:=by rw[m.1,l.1,h.1,g.1,f.1]
 have C:IsZip d z TI TO .ellipsis:=m.extBut _ _ D.TOz.symm (l.extBut _ _ D.i2z.symm (h.extBut _ _ D.TOz.symm (g.extBut _ _ D.i1z.symm p)));have T:∀c o,c≠z->c≠TO->c≠J->c≠L->s.heap.get? c=some o->d.get? c=some o:=fun c o U c2 c3 c4 e =>
  m.extBut _ _ c2 (l.extBut _ _ c4 (h.extBut _ _ c2 (g.extBut _ _ c3 (f.extBut _ _ U e))))
 have Y:d.IsTupleIter J l1 (k1+1):=((N.extBut h.extBut D.TOi1.symm).extBut l.extBut D.i12).extBut m.extBut D.TOi1.symm;have ab:d.IsTupleIter L l2 (k2+1):=O.extBut m.extBut D.TOi2.symm;have ap:z<d.objs.size:=ar C;show wpAny _ _ (aS.SmallTypes.ownedTupleHandOut (.ref z) (.ref d.objs.size) >>= _) _ _ _;refine ac ?_;unfold aS.SmallTypes.ownedTupleHandOut;have al:IsZip (d.push { cls:=.type "tuple",data:=.seq #[x,y] }) z TI TO .ellipsis:=aF _ C;refine ac (gk al (by simp) fun m₇ t G=>?_)
 replace t:IsZip m₇ z TI TO (rawInt d.objs.size):=t
 refine gk t (by simp) fun n j H=>?_
 replace j:IsZip n z TI TO (rawInt d.objs.size):=j
 have up:∀c o,c≠z->d.get? c=some o->n.get? c=some o:=fun c o U e=>H.extBut _ _ U (G.extBut _ _ U (aF _ e));have I:IsPair n d.objs.size x y:=H.extBut _ _ (cI ap) (G.extBut _ _ (cI ap) (bF _ rfl));have as:n.objs.size=d.objs.size+1:=by rw[H.1,G.1,gD]
 rw[an]at j I as;refine ak ⟨_,rfl,?_⟩;show Q (.ref d.objs.size) _;rw[an];refine k n j (up _ _ D.TOz i) ?_ ?_ I as fun c o U c2 c3 c4 e=>up c o U (T c o U c2 c3 c4 e)
 ·obtain⟨o,e,r⟩:=Y;exact⟨o,up _ o D.i1z e,r⟩
 ·obtain⟨o,e,r⟩:=ab;exact⟨o,up _ o D.i2z e,r⟩
theorem B4{z TI TO u v I J:Addr}{L M:Nat}{xs N:Array Value}{a b:Value}{Q:Fin->Shared->Prop}(hh:A.handled=none)(D:fE z TI TO u v I J)
  (y:IsZip s.heap z TI TO .none) (gI:IsPair s.heap TI (.ref u) (.ref v)) (gO:IsPair s.heap TO a b)
  (g1:s.heap.IsTupleIter u I L) (g2:s.heap.IsTupleIter v J M) (t1:s.heap.IsTuple I xs) (t2:s.heap.IsTuple J N) (O:xs[L]?=none∨N[M]?=none)
  (k:∀T e,(∀c o,c≠z->c≠TO->c≠u->c≠v->s.heap.get? c=some o->T.get? c=some o)->(∃o,T.get? e=some o/\o.cls=.type "StopIteration")->E (.ref e) { s with heap:=T }) :
  wpAny (model prog w) A (aS.«zip.__next__» ⟨[.ref z],[]⟩) Q E s:=by
 show wpAny _ _ (field (.ref z) 2 >>= _) _ _ _;refine ac (be y rfl (x:=.bool false) rfl ?_);show wpAny _ _ (field (.ref z) 3 >>= _) _ _ _;refine ac (be y rfl (x:=.ref TI) rfl ?_);refine ac (i9 gI rfl ?_);show wpAny _ _ (j5 (.ref z) >>= _) _ _ _;refine ac ?_;unfold j5;refine ac (be y rfl (x:=.none) rfl (ak ?_));simp only[if_true];refine ac (mZ ?_);refine ac (be y rfl (x:=.ref TO) rfl ?_);refine ac (gk y (by simp) fun m₁ h d=>?_)
 replace h:IsZip m₁ z TI TO .ellipsis:=h
 refine ac ?_;simp only[List.zipIdx_cons,List.zipIdx_nil,lU,u6];refine ac (ac (qZ ?_));show wpAny _ _ (gl (.ref u) >>= _) _ _ _;cases hx:xs[L]? with
 |none =>
  refine ac (pH hh (g1.extBut d.extBut D.i1z) (t1.extBut d.extBut D.l1z) hx fun m₂ e f U=>?_);obtain⟨Y,r,B⟩:=U;have i:IsZip m₂ z TI TO .ellipsis:=f _ _ D.i1z.symm h;have t:e≠z:=fun q=>by subst q;rw[i]at r;cases r;simp at B
  refine gk i (by simp) fun m _ g=>k m e (fun c o C _ c3 _ q=>g.extBut _ _ C (f _ _ c3 (d.extBut _ _ C q))) ⟨Y,g.extBut _ _ t r,B⟩
 |some x =>
  have hy:N[M]?=none:=by rcases O with q|q;rw[hx]at q;cases q;exact q
  refine ac (jD (g1.extBut d.extBut D.i1z) (t1.extBut d.extBut D.l1z) hx fun m₂ ab f=>ak ?_);have j:IsPair m₂ TO a b:=f.extBut _ _ D.TOi1 (d.extBut _ _ D.TOz gO);refine ac (i9 j rfl ?_);refine ac (wpAny_updateSeq_pair j fun m al g=>?_);refine ac (oz (ak ?_));refine ac (ac (qZ ?_));show wpAny _ _ (gl (.ref v) >>= _) _ _ _;refine ac (pH hh (((g2.extBut d.extBut D.i2z).extBut f.extBut D.i12.symm).extBut g.extBut D.TOi2.symm)
   (((t2.extBut d.extBut D.l2z).extBut f.extBut D.l2i1).extBut g.extBut D.l2TO) hy fun G e n U=>?_)
  obtain⟨Y,r,B⟩:=U;have l:IsZip G z TI TO .ellipsis:=n _ _ D.i2z.symm (g.extBut _ _ D.TOz.symm (f.extBut _ _ D.i1z.symm h));have t:e≠z:=fun q=>by subst q;rw[l]at r;cases r;simp at B
  refine gk l (by simp) fun H _ p=>k H e (fun c o C c2 c3 c4 q=>p.extBut _ _ C (n _ _ c4 (g.extBut _ _ c2 (f.extBut _ _ c3 (d.extBut _ _ C q))))) ⟨Y,p.extBut _ _ t r,B⟩
theorem tu{z TI TO e f g h:Addr}{i j:Nat}{xs ys:Array Value}{x y a b:Value}{Q:Option Value->Shared->Prop}(D:fE z TI TO e f g h)
  (l:IsZip s.heap z TI TO .none) (n:IsPair s.heap TI (.ref e) (.ref f)) (p:IsPair s.heap TO a b)
  (q:s.heap.IsTupleIter e g i) (r:s.heap.IsTupleIter f h j) (t:s.heap.IsTuple g xs) (u:s.heap.IsTuple h ys) (hx:xs[i]?=some x) (v:ys[j]?=some y)
  (k:∀d,IsZip d z TI TO (rawInt s.heap.objs.size)->IsPair d TO x y->d.IsTupleIter e g (i+1)->d.IsTupleIter f h (j+1)->IsPair d s.heap.objs.size x y->d.objs.size=s.heap.objs.size+1 ->
   (∀c o,c≠z->c≠TO->c≠e->c≠f->s.heap.get? c=some o->d.get? c=some o)->Q (some (.ref s.heap.objs.size)) { s with heap:=d }) :
  wpAny (model prog w) A (pyNext (.ref z)) Q E s:=by
 have m:s.TypeIs (.ref z) "zip":=⟨_,l,rfl⟩;unfold pyNext;exact ac (iQ (iT (name:=hG "__next__") m j4
  (lm j4 m u5
   (A4 D l n p q r t u hx v fun d a1 a2 a3 B C G H=>ak (k d a1 a2 a3 B C G H)) (u3 _))))
theorem vO{z TI TO d f g h:Addr}{l m:Nat}{xs ys:Array Value}{a b:Value}{Q:Option Value->Shared->Prop}(q:A.handled=none)(D:fE z TI TO d f g h)
  (n:IsZip s.heap z TI TO .none) (r:IsPair s.heap TI (.ref d) (.ref f)) (t:IsPair s.heap TO a b)
  (u:s.heap.IsTupleIter d g l) (v:s.heap.IsTupleIter f h m) (x:s.heap.IsTuple g xs) (y:s.heap.IsTuple h ys) (i:xs[l]?=none∨ys[m]?=none)
  (k:∀j,(∀c o,c≠z->c≠TO->c≠d->c≠f->s.heap.get? c=some o->j.get? c=some o)->Q none { s with heap:=j }):wpAny (model prog w) A (pyNext (.ref z)) Q E s:=by
 have p:s.TypeIs (.ref z) "zip":=⟨_,n,rfl⟩;unfold pyNext;refine ac (iQ (iT (name:=hG "__next__") p j4
  (lm j4 p u5 (B4 q D n r t u v x y i fun j e kp B=>?_) (u3 _))))
 obtain⟨o,C,G⟩:=B;refine ac (tQ (T:="StopIteration") (b:=true) ⟨o,C,G⟩ uZ ?_);exact ak (k _ kp)
end
abbrev HP(h:Heap)(l1:Addr):Heap:=h.push { cls:=.type "tuple_iterator",data:=.fields #[.ref l1,.int 0 0] }
abbrev HN(h:Heap)(l1 l2:Addr):Heap:=(HP h l1).push { cls:=.type "tuple_iterator",data:=.fields #[.ref l2,.int 0 0] }
abbrev HM(h:Heap)(l1 l2:Addr):Heap:=(HN h l1 l2).push { cls:=.type "tuple",data:=.seq #[.ref h.objs.size,.ref (HP h l1).objs.size] }
abbrev HL(h:Heap)(l1 l2:Addr):Heap:=(HM h l1 l2).push { cls:=.type "tuple",data:=.seq #[.none,.none] }
abbrev GS(h:Heap)(l1 l2:Addr):Heap:=(HL h l1 l2).push { cls:=.type "zip",data:=.fields #[.none,.bool false,.bool false,.ref (HN h l1 l2).objs.size,.ref (HM h l1 l2).objs.size] }
theorem yR(l1 l2:Addr)(xs a:Array Value):
  Meets (aS.«zip.__new__» ⟨[.type "zip",.ref l1,.ref l2],[]⟩) (fun _ R s=>s.heap.IsTuple l1 xs/\s.heap.IsTuple l2 a /\
   R (.ok (.ret (.ref (HL s.heap l1 l2).objs.size))) { s with heap:=GS s.heap l1 l2 }) :=
 .of_wp fun e w A R s h=>by
  obtain⟨f,g,d,tk,os⟩:=s;obtain⟨j,k,h⟩:=h;have i:=sub_zip;have l:Heap.IsTuple (uY ⟨f,g,d,tk,os⟩) l1 xs:=j;have m:Heap.IsTuple (uY ⟨f.push { cls:=.type "tuple_iterator",data:=.fields #[.ref l1,.int 0 0] },g,d,tk,os⟩) l2 a:=Heap.IsTuple.push k _
  wp_walk using zT l,zT m
  exact⟨_,rfl,h⟩
section
variable{prog:aU}{w:World}{A:Around}{E:Zc}{s:Shared}
theorem BO{a d:Addr}{xs ys:Array Value}{Q:Zc}(q:s.heap.IsTuple a xs)(r:s.heap.IsTuple d ys)
  (k:∀e,IsZip e (s.heap.objs.size+4) (s.heap.objs.size+2) (s.heap.objs.size+3) .none->IsPair e (s.heap.objs.size+2) (.ref s.heap.objs.size) (.ref (s.heap.objs.size+1)) ->
   IsPair e (s.heap.objs.size+3) .none .none->e.IsTupleIter s.heap.objs.size a 0->e.IsTupleIter (s.heap.objs.size+1) d 0->(∀c o,s.heap.get? c=some o->e.get? c=some o)->Q (.ref (s.heap.objs.size+4)) { s with heap:=e }) :
  wpAny (model prog w) A (call (.type "zip") [.ref a,.ref d]) Q E s:=by
 refine callType_new F.called_zip (by decide) (F.typeCall_zip_2 _ _) (F.newCall_zip_2 _ _) (fun f=>F.args_object_init_3 f _ _) F.entry_zip_new
  (yR a d xs ys) ⟨q,r,?_⟩
 have g:(HP s.heap a).objs.size=s.heap.objs.size+1:=gD ..;have h:(HN s.heap a d).objs.size=s.heap.objs.size+2:=by rw[gD,g]
 have i:(HM s.heap a d).objs.size=s.heap.objs.size+3:=by rw[gD,h]
 have l:(HL s.heap a d).objs.size=s.heap.objs.size+4:=by rw[gD,i]
 have j:(GS s.heap a d).get? (HL s.heap a d).objs.size=some _:=bF _ rfl;have m:(GS s.heap a d).get? (HM s.heap a d).objs.size=some _:=aF _ (bF _ rfl);have n:(GS s.heap a d).get? (HN s.heap a d).objs.size=some _:=aF _ (aF _ (bF _ rfl));have p:(GS s.heap a d).get? (HP s.heap a).objs.size=some _:=aF _ (aF _ (aF _ (bF _ rfl)));have t:(GS s.heap a d).get? s.heap.objs.size=some _:=aF _ (aF _ (aF _ (aF _ (bF _ rfl))));show _/\_;rw[h,i,l]at j;rw[g,h]at n;rw[i]at m;rw[g]at p;rw[l];exact⟨⟨_,j,rfl⟩,k _ j n m ⟨_,t,rfl,rfl⟩ ⟨_,p,rfl,rfl⟩ fun c o x =>
  aF _ (aF _ (aF _ (aF _ (aF _ x))))⟩
end
def DS(K:Za)(a b:Addr):It :=
  ⟨fun i H=>∃xs ys x y,cj K H a xs/\cj K H b ys/\xs[i]?=some x/\ys[i]?=some y,
   fun i H x H'=>∃p u v,x=.ref p/\H p=none/\(∀xs,cj K H a xs->xs[i]?=some u)/\(∀ys,cj K H b ys->ys[i]?=some v)/\H'=upd H p (.tup [u,v]),
   fun i H=>∃xs ys,cj K H a xs/\cj K H b ys/\(xs.length<=i∨ys.length<=i)⟩
theorem A5{P:aU}{w:World}{K:Za}{es:List Expr}{kx:Nat}{J7:Pos}(a b z TI TO t A:Addr)(D:fE z TI TO t A a b):
  pY P w K (.Tuple es kx J7) (DS K a b) [z,TI,TO,t,A] z (fun i h=>IsZip h z TI TO .none/\IsPair h TI (.ref t) (.ref A)/\(∃a b,IsPair h TO a b)/\h.IsTupleIter t a i/\h.IsTupleIter A b i) where
 mem:=by simp
 obj:=fun i h st c f=>by
  obtain⟨p,j,⟨u,v,l⟩,M,N⟩:=st;simp only[bA,iU,or_false]at f;rcases f with rfl|rfl|rfl|rfl|rfl
  ·exact⟨_,p,fun v z=>by cases z⟩
  ·exact⟨_,j,fun v z=>by cases z⟩
  ·exact⟨_,l,fun v z=>by cases z⟩
  ·obtain⟨o,e,c,d⟩:=M;exact⟨o,e,fun v z=>by rw[d]at z;cases z⟩
  ·obtain⟨o,e,c,d⟩:=N;exact⟨o,e,fun v z=>by rw[d]at z;cases z⟩
 keep:=fun i h O st k=>by
  obtain⟨p,j,⟨u,v,l⟩,⟨o1,e1,r1⟩,⟨o2,e2,r2⟩⟩:=st;exact⟨k z (by simp) _ p,k TI (by simp) _ j,⟨u,v,k TO (by simp) _ l⟩,⟨o1,k t (by simp) o1 e1,r1⟩,⟨o2,k A (by simp) o2 e2,r2⟩⟩
 item:=by
  intro X hP hw hK f i J2 s σ H E I hf st hg;subst hP hw hK;obtain⟨p,j,⟨u0,v0,l⟩,M,N⟩:=st;obtain⟨xs,ys,x,y,C,G,hx,hy⟩:=hg;obtain⟨J,rx,px,zx⟩:=I.tuple C;obtain⟨L,ry,py,zy⟩:=I.tuple G;obtain⟨u,hu,ru⟩:=rx.get hx;obtain⟨v,hv,rv⟩:=ry.get hy;refine tu D p j l M N (xs:=J.toArray) (ys:=L.toArray) px py (x:=u) (y:=v) (by simpa using hu) (by simpa using hv) fun O a1 a2 a3 a4 a5 a6 hk=>?_;refine⟨_,rfl,wpAny_letOwnedTupleGo_zip (s:={ s with heap:=O }) a1 fun B ap as=>?_⟩;have g:dP z O B:=as;have Q:s.heap.objs.size≠z:=cI (ar p);have T:s.heap.objs.size≠TO:=cI (ar l);have U:s.heap.objs.size≠TI:=cI (ar j);have Y:s.heap.objs.size≠t:=by obtain⟨o,ho,_⟩:=M;exact cI (ar ho)
  have ab:s.heap.objs.size≠A:=by obtain⟨o,ho,_⟩:=N;exact cI (ar ho)
  have al:IsPair B s.heap.objs.size u v:=g.extBut _ _ Q a5;have I2:Inv X J2 σ (upd H s.heap.objs.size (.tup [x,y])) { s with heap:=B,toks:=s.toks }:=by
   refine I.turnedNew (ch:=[z,TI,TO,t,A]) hf (fun c o f q=>?_) ⟨_,al⟩ (fun _ z=>nomatch z) ⟨by show 2<=aj;decide,[u,v],.cons ru (.cons rv .nil),⟨_,al,rfl,_,rfl⟩⟩;have n1:c≠z:=fun q=>f (by simp[q]);exact g.extBut _ _ n1 (hk c o n1 (fun q=>f (by simp[q])) (fun q=>f (by simp[q])) (fun q=>f (by simp[q])) q)
  have aC:B.IsTupleIter t a (i+1):=by obtain⟨o,e,r⟩:=a3;exact⟨o,g.extBut _ _ D.i1z e,r⟩
  have aN:B.IsTupleIter A b (i+1):=by obtain⟨o,e,r⟩:=a4;exact⟨o,g.extBut _ _ D.i2z e,r⟩
  refine⟨.ref s.heap.objs.size,_,I2,rfl,⟨_,x,y,rfl,I.fresh,fun zs p=>by rw[I.tuple_inj p C];exact hx,fun zs p=>by rw[I.tuple_inj p G];exact hy,rfl⟩,⟨ap,g.extBut _ _ D.TIz (hk _ _ D.TIz D.TITO D.TIi1 D.TIi2 j),⟨_,_,g.extBut _ _ D.TOz a2⟩,aC,aN⟩,fun c f=>?_⟩;have aT:=(hf c f).1;simp only[bA,iU,or_false]at f;have ne:c≠s.heap.objs.size:=by
   rcases f with rfl|rfl|rfl|rfl|rfl
   ·exact Q.symm
   ·exact U.symm
   ·exact T.symm
   ·exact Y.symm
   ·exact ab.symm
  rw[ah ne];exact aT
 done:=by
  intro X hP hw hK f i J2 s σ H E I hf st hg;subst hP hw hK;obtain⟨p,j,⟨u0,v0,l⟩,M,N⟩:=st;obtain⟨xs,ys,C,G,an⟩:=hg;obtain⟨J,rx,px,zx⟩:=I.tuple C;obtain⟨L,ry,py,zy⟩:=I.tuple G;have lx:=rx.length;have ly:=ry.length;refine vO (I.ok.hd f) D p j l M N (xs:=J.toArray) (ys:=L.toArray) px py (by rcases an with q|q;exact .inl (by simp;omega);exact .inr (by simp;omega)) fun O hk=>⟨rfl,?_⟩;have tr:∀c q,H c=some q->c∉[z,TI,TO,t,A]:=fun c q e m=>by rw[(hf c m).1]at e;cases e
  have kk:∀c o,c∉[z,TI,TO,t,A]->s.heap.get? c=some o->O.get? c=some o:=fun c o f q=>hk c o (fun q=>f (by simp[q])) (fun q=>f (by simp[q])) (fun q=>f (by simp[q])) (fun q=>f (by simp[q])) q;refine I.step (g':=s.gens) (d':=s.drawn) (t':=s.toks) (ch:=[z,TI,TO,t,A]) (fun c f=>?_) (fun c o _ _ f e _=>kk c o f e) (fun c o _ _ f e _=>⟨o.slots,kk c o f e⟩) (fun _ _ _ _ n=>n) (fun c o f e=>⟨o,kk c o f e⟩) (fun _ _ e=>e) (fun _ _ _ e=>e) (fun c ps e=>⟨#[],by rw[e];simp⟩) (fun m hm=>?_) (fun c q e=>?_) I.bare
  ·obtain⟨f0,f1,f2,f3,f4,f5⟩:=hf c f;exact⟨f3,f1,f4,f5⟩
  ·obtain⟨q,aX,ep,ho,r⟩:=hm;exact⟨q,aX,ep,kk _ q (fun z=>(hf _ z).2.1 rfl) ho,r⟩
  ·refine(I.hok c q e).stay (fun d v hd q'=>kk d v ?_ q') (fun _ q=>q) fun _ _ q=>q;rcases hd with z|z
   ·subst z;exact tr _ _ e
   ·exact tr _ _ z
 self:=fun _ _ _ _ _ st h=>q_ st.1 h
section
variable{X:Cx}{p pos:Pos}{es:List Expr}{kx:Nat}{J7:Pos}
def xy(K:Za)(ta:TA):TI:=fun σ H R=>ta σ H fun vs H1=>∃a b,vs=[.ref a,.ref b]/\(((∃xs,aH K H1 a xs)/\(∃ys,aH K H1 b ys)/\R (HD K a b) H1)∨((∃xs,cj K H1 a xs)/\(∃ys,cj K H1 b ys)/\R (DS K a b) H1))
theorem EH{a b:Expr}{G:TA}(N:Gl X "zip")(O:X.mg "zip"=none)(Q:PA X [a,b] G)(T:aq [a,b] X.env=[(false,eval a X.env),(false,eval b X.env)]:=by rfl)(i:aq [b] X.env=[(false,eval b X.env)]:=by rfl):
  PI X (.Tuple es kx J7) (.Call (.Name "zip" p) [a,b] [] pos) (xy X.K G):=by
 intro w s σ H R I h;refine Call_ (jE I N O boot_zip (tM (bY (Q pos w s σ H _ I h) fun us s1 x=>?_) (by rw[T,i]) (by rw[i];rfl)));obtain⟨vs,j,d,U,Y⟩:=x;obtain⟨J,L,e,q⟩:=Y;subst e;obtain⟨u,v,rfl,ru,rv⟩:=vals2 U;cases ru;cases rv;have k:∀b∈[s1.heap.objs.size+4,s1.heap.objs.size+2,s1.heap.objs.size+3,s1.heap.objs.size,s1.heap.objs.size+1],kJ X w j b:=fun b M=>by
  have l:s1.heap.objs.size<=b:=by
   simp only[bA,iU,or_false]at M;rcases M with rfl|rfl|rfl|rfl|rfl<;>omega
  exact d.fpOk l (d.hok.fresh l)
 rcases q with⟨⟨xs,hx⟩,⟨ys,y⟩,q⟩|⟨⟨xs,hx⟩,⟨ys,y⟩,q⟩
 ·obtain⟨m,rx,n,zx⟩:=d.list hx;obtain⟨r,ry,t,zy⟩:=d.list y;obtain⟨o1,n1,z,_⟩:=id n;obtain⟨o2,n2,A,_⟩:=id t;refine call_zip_2 n.isList t.isList fun f a1 a2 a3 B C a6 D=>?_;refine q_ (s:={ s1 with heap:=f }) a1 ?_;have g:∀b o,s1.heap.get? b=some o->f.get? b=some o:=D;have E:Inv X w σ j { s1 with heap:=f }:=d.kept (t':=s1.toks) g;exact⟨_,_,_,_,j,rfl,E,Cc J L _ _ _ _ _ (zipApart_new (ar z) (ar A)),⟨a1,a2,⟨_,_,a3⟩,B,C⟩,k,q⟩
 ·obtain⟨m,rx,n,zx⟩:=d.tuple hx;obtain⟨r,ry,t,zy⟩:=d.tuple y;obtain⟨o1,z,_⟩:=id n;obtain⟨o2,A,_⟩:=id t;refine BO (xs:=m.toArray) (ys:=r.toArray) n t fun f a1 a2 a3 B C D=>?_;refine q_ (s:={ s1 with heap:=f }) a1 ?_;have g:∀b o,s1.heap.get? b=some o->f.get? b=some o:=D;have E:Inv X w σ j { s1 with heap:=f }:=d.kept (t':=s1.toks) g;exact⟨_,_,_,_,j,rfl,E,A5 J L _ _ _ _ _ (zipApart_new (ar z) (ar A)),⟨a1,a2,⟨_,_,a3⟩,B,C⟩,k,q⟩
end
inductive DT where
 |k (a:dg)
 |t (l:List DT)
 |s (l:List DT)
mutual
def FP:(x y:DT)->Decidable (x=y)
 |.k a,.k b=>if h:a=b then Decidable.isTrue (by rw[h])else Decidable.isFalse fun e=>h (by injection e)
 |.t l,.t m=>match decDTs l m with
  |Decidable.isTrue h=>Decidable.isTrue (by rw[h])
  |Decidable.isFalse h=>Decidable.isFalse fun e=>h (by injection e)
 |.s l,.s m=>match decDTs l m with
  |Decidable.isTrue h=>Decidable.isTrue (by rw[h])
  |Decidable.isFalse h=>Decidable.isFalse fun e=>h (by injection e)
 |.k _,.t _=>Decidable.isFalse nofun
 |.k _,.s _=>Decidable.isFalse nofun
 |.t _,.k _=>Decidable.isFalse nofun
 |.t _,.s _=>Decidable.isFalse nofun
 |.s _,.k _=>Decidable.isFalse nofun
 |.s _,.t _=>Decidable.isFalse nofun
def decDTs:(x y:List DT)->Decidable (x=y)
 |[],[]=>Decidable.isTrue rfl
 |[],_::_=>Decidable.isFalse nofun
 |_::_,[]=>Decidable.isFalse nofun
 |a::l,b::m=>match FP a b with
  |Decidable.isTrue h=>match decDTs l m with
   |Decidable.isTrue h'=>Decidable.isTrue (by rw[h,h'])
   |Decidable.isFalse h'=>Decidable.isFalse fun e=>h' (by injection e)
  |Decidable.isFalse h=>Decidable.isFalse fun e=>h (by injection e)
end
instance:DecidableEq DT:=FP
mutual
def DT.depth:DT->Nat
 |.k _=>0
 |.t l=>DT.depths l+1
 |.s l=>DT.depths l+1
def DT.depths:List DT->Nat
 |[]=>0
 |a::r=>max (DT.depth a) (DT.depths r)
end
mutual
def sS(h:Heap):DT->Value->Prop
 |.k a,v=>dq a v=true
 |.t l,v=>∃a items,v=.ref a/\h.IsTuple a items/\DAts h l items.toList
 |.s l,v=>∃a items,v=.ref a/\h.IsList a items/\DAts h l items.toList
def DAts(h:Heap):List DT->List Value->Prop
 |[],vs=>vs=[]
 |k::r,vs=>∃v us,vs=v::us/\sS h k v/\DAts h r us
end
theorem DAts.length{h:Heap}:∀{xs:List DT}{a:Zf},DAts h xs a->xs.length=a.length
 |[],a,e=>by have d:a=[]:=e;rw[d];rfl
 |x::xs,a,e=>by
  obtain⟨v,g,rfl,_,f⟩:=e;simp[DAts.length f]
theorem DAts.get{h:Heap}:∀{xs:List DT}{a:Zf}{i:Nat}{v:Value},DAts h xs a->a[i]?=some v->∃x,xs[i]?=some x/\sS h x v
 |[],a,i,v,e,q=>by have d:a=[]:=e;subst d;simp at q
 |x::xs,a,i,v,e,q=>by
  obtain⟨u,l,rfl,f,g⟩:=e;cases i with
  |zero =>
   simp at q;subst q;exact⟨x,rfl,f⟩
  |succ i =>
   obtain⟨y,j,k⟩:=DAts.get g (i:=i) (v:=v) (by simpa using q);exact⟨y,by simpa using j,k⟩
theorem DT.depths_get{l:List DT}{x:DT}{i d:Nat}(h:DT.depths l<=d)(e:l[i]?=some x):x.depth<=d:=by
 induction l generalizing i with
 |nil=>simp at e
 |cons a r f =>
  have g:max a.depth (DT.depths r)<=d:=h;cases i with
  |zero=>simp at e;subst e;omega
  |succ i=>exact f (by omega) (by simpa using e)
theorem y9{h:Heap}{a:Addr}{i j:Array Value}(x:h.IsList a i)(y:h.IsList a j):i=j:=by
 obtain⟨o,f,_,n,g⟩:=x;obtain⟨k,d,_,l,e⟩:=y;rw[f]at d;cases d;rw[g]at e;injection e
theorem xx{h:Heap}{a:Addr}{i j:Array Value}(x:h.IsTuple a i)(y:h.IsTuple a j):i=j:=by
 obtain⟨o,f,_,n,g⟩:=x;obtain⟨k,d,_,l,e⟩:=y;rw[f]at d;cases d;rw[g]at e;injection e
theorem jk{h:Heap}{a:Addr}{i j:Array Value}(x:h.IsList a i)(y:h.IsTuple a j):False:=by
 obtain⟨o,f,g,_⟩:=x;obtain⟨k,d,e,_⟩:=y;rw[f]at d;cases d;rw[g]at e;simp at e
theorem ut{a b:dg}{v:Value}(f:dq a v=true)(d:dq b v=true):a=b:=by
 rcases ax f with⟨i,t,rfl,rfl⟩|⟨i,t,rfl,rfl⟩
 ·rcases ax d with⟨j,u,rfl,e⟩|⟨j,u,rfl,e⟩
  ·cases e;rfl
  ·cases e
 ·rcases ax d with⟨j,u,rfl,e⟩|⟨j,u,rfl,e⟩
  ·cases e
  ·cases e;rfl
theorem gW{a:dg}{b:Addr}(h:dq a (.ref b)=true):False:=by
 rcases ax h with⟨_,_,_,e⟩|⟨_,_,_,e⟩<;>cases e
theorem sS.inj{h:Heap}:∀(d:Nat) {x y:DT}{v:Value},x.depth<=d->sS h x v->sS h y v->x=y:=by
 have p:∀(d:Nat) (q:∀{x y:DT}{v:Value},x.depth<=d->sS h x v->sS h y v->x=y) (xs g:List DT) (r:Zf),DT.depths xs<=d->DAts h xs r->DAts h g r->xs=g:=by
  intro d q xs
  induction xs with
  |nil =>
   intro g r _ hx f;have u:r=[]:=hx;subst u;cases g with
   |nil=>rfl
   |cons y g=>obtain⟨_,_,e,_⟩:=f;cases e
  |cons x xs w =>
   intro g r n hx f;obtain⟨v,H,rfl,z,A⟩:=hx;cases g with
   |nil=>have B:v::H=[]:=f;cases B
   |cons y g =>
    obtain⟨L,I,e,C,D⟩:=f;cases e;have J:max x.depth (DT.depths xs)<=d:=n;rw[q (by omega) z C,w g H (by omega) A D]
 intro d
 induction d with
 |zero =>
  intro x y v n hx f;cases x with
  |t l=>exact absurd n (by show ¬(DT.depths l+1<=0);omega)
  |s l=>exact absurd n (by show ¬(DT.depths l+1<=0);omega)
  |k a =>
   cases y with
   |k b=>rw[ut hx f]
   |t l=>obtain⟨b,_,rfl,_⟩:=f;exact(gW hx).elim
   |s l=>obtain⟨b,_,rfl,_⟩:=f;exact(gW hx).elim
 |succ d q =>
  intro x y v n hx f;cases x with
  |k a =>
   cases y with
   |k b=>rw[ut hx f]
   |t l=>obtain⟨b,_,rfl,_⟩:=f;exact(gW hx).elim
   |s l=>obtain⟨b,_,rfl,_⟩:=f;exact(gW hx).elim
  |t l =>
   obtain⟨a,i,rfl,hi,hx⟩:=hx;cases y with
   |k b=>exact(gW f).elim
   |t m =>
    obtain⟨E,j,e,o,f⟩:=f;cases e;rw[xx o hi]at f;rw[p d (fun G=>q G) l m i.toList (by have:DT.depths l+1<=d+1:=n;omega) hx f]
   |s m =>
    obtain⟨E,j,e,o,f⟩:=f;cases e;exact(jk o hi).elim
  |s l =>
   obtain⟨a,i,rfl,hi,hx⟩:=hx;cases y with
   |k b=>exact(gW f).elim
   |s m =>
    obtain⟨E,j,e,o,f⟩:=f;cases e;rw[y9 o hi]at f;rw[p d (fun G=>q G) l m i.toList (by have:DT.depths l+1<=d+1:=n;omega) hx f]
   |t m =>
    obtain⟨E,j,e,o,f⟩:=f;cases e;exact(jk hi o).elim
theorem gQ{l m:List DT}(d:l.length=m.length):((bO l.length).all fun j=>decide (l[j]?=m[j]?))=decide (l=m):=by
 by_cases e:l=m
 ·subst e;simp
 ·rw[zzr0 e];rw[List.all_eq_false];apply qY;intro h;apply e;apply List.ext_getElem?;intro i;by_cases hi:i<l.length
  ·apply qY;intro a;exact h ⟨i,i8.mpr hi,by simpa using a⟩
  ·rw[fD (by omega),fD (by omega)]
section
variable{s:Shared}
theorem FL:∀(d:Nat) {A:Around}{x y:DT}{u v:Value},y.depth<=d->A.units+d<cLine->sS s.heap x u->sS s.heap y v->aQ A s u v (decide (x=y)):=by
 have leaves:∀{A:Around}{a b:dg}{u v:Value},dq a u=true->dq b v=true->aQ A s u v (decide (DT.k a=DT.k b)):=by
  intro A a b u v B G;have J:decide (DT.k a=DT.k b)=decide (a=b):=by
   by_cases e:a=b
   ·subst e;simp
   ·have:¬(DT.k a=DT.k b):=fun z=>e (by injection z);rw[zzr0 this,zzr0 e]
  rw[J];rcases ax B with⟨i,t,rfl,rfl⟩|⟨i,t,rfl,rfl⟩
  ·rcases ax G with⟨j,u,rfl,rfl⟩|⟨j,u,rfl,rfl⟩
   ·rw[y0];exact aQ.int_int i t j u
   ·rw[yZ];exact aQ.int_str i t j u
  ·rcases ax G with⟨j,u,rfl,rfl⟩|⟨j,u,rfl,rfl⟩
   ·rw[yY];exact aQ.str_int i t j u
   ·rw[yX];have:=aQ.str_str (A:=A) (s:=s) i t j u;rwa[show(i==j)=decide (i=j)from by by_cases e:i=j<;>simp[e]]at this
 have kt:∀{A:Around}{a:dg}{u:Value}{b:Addr}{items:Array Value},A.units<cLine->dq a u=true->s.heap.IsTuple b items->aQ A s u (.ref b) false/\aQ A s (.ref b) u false:=by
  intro A a u b items h B w;rcases ax B with⟨i,t,rfl,rfl⟩|⟨i,t,rfl,rfl⟩
  ·exact⟨aQ.int_tuple i t w h,aQ.tuple_int i t w h⟩
  ·exact⟨aQ.str_tuple i t w h,aQ.tuple_str i t w h⟩
 have L:∀{A:Around}{a:dg}{u:Value}{b:Addr}{items:Array Value},A.units<cLine->dq a u=true->s.heap.IsList b items->aQ A s u (.ref b) false/\aQ A s (.ref b) u false:=by
  intro A a u b items h B w;rcases ax B with⟨i,t,rfl,rfl⟩|⟨i,t,rfl,rfl⟩
  ·exact⟨aQ.int_list i t w h,aQ.list_int i t w h⟩
  ·exact⟨aQ.str_list i t w h,aQ.list_str i t w h⟩
 intro d
 induction d with
 |zero =>
  intro A x y u v o h hx f;cases y with
  |t l=>exact absurd o (by show ¬(DT.depths l+1<=0);omega)
  |s l=>exact absurd o (by show ¬(DT.depths l+1<=0);omega)
  |k b =>
   cases x with
   |t l =>
    obtain⟨a,i,rfl,hi,_⟩:=hx;rw[zzr0 (by intro z;cases z)];exact(kt (by omega) f hi).2
   |s l =>
    obtain⟨a,i,rfl,hi,_⟩:=hx;rw[zzr0 (by intro z;cases z)];exact(L (by omega) f hi).2
   |k a=>exact leaves hx f
 |succ d Q =>
  intro A x y u v o h hx f;have items:∀{l m:List DT}{i j:Array Value},DT.depths m<=d->DAts s.heap l i.toList->DAts s.heap m j.toList->∀n (B:n<i.size) (G:n<j.size),aQ A.in1 s i[n] j[n] (decide (l[n]?=m[n]?)):=by
   intro l m i j H hi p n B G;obtain⟨x,ex,hx⟩:=hi.get (i:=n) (v:=i[n]) (by simp[B]);obtain⟨y,O,f⟩:=p.get (i:=n) (v:=j[n]) (by simp[G]);rw[ex,O];have J:decide ((some x:Option DT)=some y)=decide (x=y):=by
    by_cases e:x=y
    ·subst e;simp
    ·rw[zzr0 e,zzr0 fun z=>e (eJ z)]
   rw[J];exact Q (DT.depths_get H O) (by show A.units+1+d<cLine;omega) hx f
  cases x with
  |k a =>
   cases y with
   |k b=>exact leaves hx f
   |t l =>
    obtain⟨b,i,rfl,hi,_⟩:=f;rw[zzr0 (by intro z;cases z)];exact(kt (by omega) hx hi).1
   |s l =>
    obtain⟨b,i,rfl,hi,_⟩:=f;rw[zzr0 (by intro z;cases z)];exact(L (by omega) hx hi).1
  |t l =>
   have C:=hx;obtain⟨a,i,rfl,hi,hx⟩:=hx;cases y with
   |k b =>
    rw[zzr0 (by intro z;cases z)];exact(kt (by omega) f hi).2
   |s m =>
    obtain⟨b,j,rfl,p,_⟩:=f;rw[zzr0 (by intro z;cases z)];exact aQ.tuple_list hi p (by omega)
   |t m =>
    have H:DT.depths m<=d:=by have:DT.depths m+1<=d+1:=o;omega
    have D:=f;obtain⟨b,j,rfl,p,f⟩:=f;by_cases g:a=b
    ·subst g;have e:DT.t l=DT.t m:=sS.inj _ (az _) C D;rw[zzr1 e];exact aQ.same _
    ·have r:=SeqAt.RcAt.tuples (A:=A) hi p (by omega) (items H hx f);have I:=hx.length;have M:=f.length;simp only[lJ]at I M;have q:((bO (min i.size j.size)).all (fun n=>decide (l[n]?=m[n]?)) && i.size==j.size)=decide (DT.t l=DT.t m):=by
      by_cases e:l.length=m.length
      ·have N:i.size=j.size:=by omega
       rw[<-N,Nat.min_self,<-I,gQ e];by_cases E:l=m
       ·subst E;simp
       ·have:¬(DT.t l=DT.t m):=fun z=>E (by injection z);rw[zzr0 this,zzr0 E];rfl
      ·have N:(i.size==j.size)=false:=by simp;omega
       have:¬(DT.t l=DT.t m):=fun z=>e (by injection z with z;rw[z]);rw[N,zzr0 this,va]
     rw[q]at r;exact .of_refs g r
  |s l =>
   have C:=hx;obtain⟨a,i,rfl,hi,hx⟩:=hx;cases y with
   |k b =>
    rw[zzr0 (by intro z;cases z)];exact(L (by omega) f hi).2
   |t m =>
    obtain⟨b,j,rfl,p,_⟩:=f;rw[zzr0 (by intro z;cases z)];exact aQ.list_tuple hi p (by omega)
   |s m =>
    have H:DT.depths m<=d:=by have:DT.depths m+1<=d+1:=o;omega
    have D:=f;obtain⟨b,j,rfl,p,f⟩:=f;by_cases g:a=b
    ·subst g;have e:DT.s l=DT.s m:=sS.inj _ (az _) C D;rw[zzr1 e];exact aQ.same _
    ·have I:=hx.length;have M:=f.length;simp only[lJ]at I M;by_cases e:l.length=m.length
     ·have r:=SeqAt.RcAt.lists (A:=A) hi p (by omega) (by omega) (items H hx f);rw[<-I,gQ e]at r;have q:decide (l=m)=decide (DT.s l=DT.s m):=by
       by_cases E:l=m
       ·subst E;simp
       ·have:¬(DT.s l=DT.s m):=fun z=>E (by injection z);rw[zzr0 this,zzr0 E]
      rw[q]at r;exact .of_refs g r
     ·have:¬(DT.s l=DT.s m):=fun z=>e (by injection z with z;rw[z]);rw[zzr0 this];exact .of_refs g (SeqAt.RcAt.lists_lengths hi p (by simp;omega) (by omega))
end
theorem FN(a b:dg):decide (DT.k a=DT.k b)=decide (a=b):=by
 by_cases e:a=b
 ·subst e;simp
 ·rw[zzr0 e,zzr0 fun z=>e (by injection z)]
theorem Hv(l m:List DT):decide (DT.t l=DT.t m)=decide (l=m):=by
 by_cases e:l=m
 ·subst e;simp
 ·rw[zzr0 e,zzr0 fun z=>e (by injection z)]
theorem Hw(l m:List DT):decide (DT.s l=DT.s m)=decide (l=m):=by
 by_cases e:l=m
 ·subst e;simp
 ·rw[zzr0 e,zzr0 fun z=>e (by injection z)]
theorem DE(x y:DT):decide ((some x:Option DT)=some y)=decide (x=y):=by
 by_cases e:x=y
 ·subst e;simp
 ·rw[zzr0 e,zzr0 fun z=>e (eJ z)]
section
variable{A:Around}{s:Shared}
theorem xH{d:Nat}(g:A.units+1+d<cLine){l m:List DT}{i j:Array Value}(h:DT.depths m<=d)(hi:DAts s.heap l i.toList)(k:DAts s.heap m j.toList):
  ∀n (a:n<i.size) (e:n<j.size),aQ A.in1 s i[n] j[n] (decide (l[n]?=m[n]?)):=by
 intro n a e;obtain⟨x,ex,hx⟩:=hi.get (i:=n) (v:=i[n]) (by simp[a]);obtain⟨y,f,o⟩:=k.get (i:=n) (v:=j[n]) (by simp[e]);rw[ex,f,DE];exact FL d (DT.depths_get h f) g hx o
theorem Ef{l m:List DT}{i j:Array Value}(hi:DAts s.heap l i.toList)(f:DAts s.heap m j.toList):((bO (min i.size j.size)).all (fun n=>decide (l[n]?=m[n]?)) && i.size==j.size)=decide (l=m):=by
 have d:=hi.length;have g:=f.length;simp only[lJ]at d g;by_cases e:l.length=m.length
 ·have a:i.size=j.size:=by omega
  rw[<-a,Nat.min_self,<-d,gQ e];simp
 ·have a:(i.size==j.size)=false:=by simp;omega
  rw[a,zzr0 fun z=>e (by rw[z]),va]
theorem Hu{x y:DT}{u v:Value}(n:y.depth<=14)(q:A.units+16<cLine)(hx:sS s.heap x u)(d:sS s.heap y v):SeqAt.RcAt A s u v (decide (x=y)):=by
 cases x with
 |k a =>
  rcases ax (show dq a u=true from hx)with⟨i,t,rfl,rfl⟩|⟨i,t,rfl,rfl⟩
  ·cases y with
   |k b =>
    rw[FN];rcases ax (show dq b v=true from d)with⟨j,g,rfl,rfl⟩|⟨j,g,rfl,rfl⟩
    ·rw[y0];exact SeqAt.RcAt.int_int i t j g
    ·rw[yZ];exact SeqAt.RcAt.int_str i t j g
   |t m=>obtain⟨b,j,rfl,f,_⟩:=d;rw[zzr0 (by intro z;cases z)];exact SeqAt.RcAt.int_tuple i t f (by omega)
   |s m=>obtain⟨b,j,rfl,f,_⟩:=d;rw[zzr0 (by intro z;cases z)];exact SeqAt.RcAt.int_list i t f (by omega)
  ·cases y with
   |k b =>
    rw[FN];rcases ax (show dq b v=true from d)with⟨j,g,rfl,rfl⟩|⟨j,g,rfl,rfl⟩
    ·rw[yY];exact SeqAt.RcAt.str_int i t j g
    ·rw[yX];have:=SeqAt.RcAt.str_str (A:=A) (s:=s) i t j g;rwa[show(i==j)=decide (i=j)from by by_cases e:i=j<;>simp[e]]at this
   |t m=>obtain⟨b,j,rfl,f,_⟩:=d;rw[zzr0 (by intro z;cases z)];exact SeqAt.RcAt.str_tuple i t f (by omega)
   |s m=>obtain⟨b,j,rfl,f,_⟩:=d;rw[zzr0 (by intro z;cases z)];exact SeqAt.RcAt.str_list i t f (by omega)
 |t l =>
  obtain⟨a,i,rfl,hi,hx⟩:=hx;cases y with
  |k b =>
   rw[zzr0 (by intro z;cases z)];rcases ax (show dq b v=true from d)with⟨j,g,rfl,rfl⟩|⟨j,g,rfl,rfl⟩
   ·exact SeqAt.RcAt.tuple_int j g hi (by omega)
   ·exact SeqAt.RcAt.tuple_str j g hi (by omega)
  |t m =>
   obtain⟨b,j,rfl,f,d⟩:=d;have h:DT.depths m<=13:=by have:DT.depths m+1<=14:=n;omega
   have r:=SeqAt.RcAt.tuples (A:=A) hi f (by omega) (xH (by omega) h hx d);rw[Ef hx d]at r;rw[Hv];exact r
  |s m=>obtain⟨b,j,rfl,f,_⟩:=d;rw[zzr0 (by intro z;cases z)];exact SeqAt.RcAt.tuple_list hi f (by omega)
 |s l =>
  obtain⟨a,i,rfl,hi,hx⟩:=hx;cases y with
  |k b =>
   rw[zzr0 (by intro z;cases z)];rcases ax (show dq b v=true from d)with⟨j,g,rfl,rfl⟩|⟨j,g,rfl,rfl⟩
   ·exact SeqAt.RcAt.list_int j g hi (by omega)
   ·exact SeqAt.RcAt.list_str j g hi (by omega)
  |t m=>obtain⟨b,j,rfl,f,_⟩:=d;rw[zzr0 (by intro z;cases z)];exact SeqAt.RcAt.list_tuple hi f (by omega)
  |s m =>
   obtain⟨b,j,rfl,f,d⟩:=d;have h:DT.depths m<=13:=by have:DT.depths m+1<=14:=n;omega
   have o:=hx.length;have p:=d.length;simp only[lJ]at o p;rw[Hw];by_cases e:l.length=m.length
   ·have r:=SeqAt.RcAt.lists (A:=A) hi f (by omega) (by omega) (xH (by omega) h hx d);rw[<-o,gQ e]at r;exact r
   ·rw[zzr0 fun z=>e (by rw[z])];exact SeqAt.RcAt.lists_lengths hi f (by simp;omega) (by omega)
end
mutual
def lH(K:Za)(H:Hp):DT->V->Prop
 |.k a,v=>v=kV a
 |.t l,v=>∃b xs,v=.ref b/\cj K H b xs/\DIns K H l xs
 |.s l,v=>∃b xs,v=.ref b/\aH K H b xs/\DIns K H l xs
def DIns(K:Za)(H:Hp):List DT->List V->Prop
 |[],vs=>vs=[]
 |k::r,vs=>∃v us,vs=v::us/\lH K H k v/\DIns K H r us
end
section
variable{X:Cx}{J2:Zd}{σ:St}{H:Hp}{s:Shared}
theorem vV(I:Inv X J2 σ H s):∀(d:Nat) {k:DT}{v:V}{u:Value},k.depth<=d->lH X.K H k v->RelV v u->sS s.heap k u:=by
 have h:∀(d:Nat) (i:∀{k:DT}{v:V}{u:Value},k.depth<=d->lH X.K H k v->RelV v u->sS s.heap k u) (f:List DT) (j:List V) (o:Zf),DT.depths f<=d->DIns X.K H f j->aP j o->DAts s.heap f o:=by
  intro d i f
  induction f with
  |nil =>
   intro j o _ hx r;have e:j=[]:=hx;subst e;cases r
   rfl
  |cons k f p =>
   intro j o g hx r;obtain⟨v,q,rfl,m,A⟩:=hx;cases r with
   |@cons _ u _ n B C =>
    have D:max k.depth (DT.depths f)<=d:=g;exact⟨u,n,rfl,i (by omega) m B,p q n (by omega) A C⟩
 intro d
 induction d with
 |zero =>
  intro k v u g hx r;cases k with
  |t l=>exact absurd g (by show ¬(DT.depths l+1<=0);omega)
  |s l=>exact absurd g (by show ¬(DT.depths l+1<=0);omega)
  |k b =>
   have e:v=kV b:=hx;subst e;exact nN (P:=X.prog) (w:=X.w) r
 |succ d i =>
  intro k v u g hx r;cases k with
  |k b =>
   have e:v=kV b:=hx;subst e;exact nN (P:=X.prog) (w:=X.w) r
  |t l =>
   obtain⟨b,xs,rfl,x,hi⟩:=hx;cases(show u=Value.ref b from r);obtain⟨a,y,z,_⟩:=I.tuple x;exact⟨b,a.toArray,rfl,z,by simpa using h d (fun m=>i m) l xs a (by have:DT.depths l+1<=d+1:=g;omega) hi y⟩
  |s l =>
   obtain⟨b,xs,rfl,x,hi⟩:=hx;cases(show u=Value.ref b from r);obtain⟨a,y,z,_⟩:=I.list x;exact⟨b,a.toArray,rfl,z.isList,by simpa using h d (fun m=>i m) l xs a (by have:DT.depths l+1<=d+1:=g;omega) hi y⟩
theorem vU(I:Inv X J2 σ H s):∀{a:List DT}{d:List V}{f:Zf},DT.depths a<=8->DIns X.K H a d->aP d f->DAts s.heap a f
 |[],d,f,_,hx,r=>by
  have e:d=[]:=hx;subst e;cases r
  rfl
 |k::a,d,f,h,hx,r=>by
  obtain⟨v,i,rfl,j,l⟩:=hx;cases r with
  |@cons _ u _ g m n =>
   have o:max k.depth (DT.depths a)<=8:=h;exact⟨u,g,rfl,vV I 8 (by omega) j m,vU I (by omega) l n⟩
end
def ED(K:Za):R2:=fun x y H Q=>∃d e:DT,lH K H d x/\lH K H e y/\d.depth<=8/\e.depth<=8/\Q (.bl (decide (d=e))) H
section
variable{X:Cx}
theorem yP(f:X.A.units+16<cLine):n6 X (dZ .Eq) (ED X.K):=by
 intro l s σ H x y v u Q I g i h;obtain⟨d,e,hx,j,k,a,q⟩:=h;exact Hu (bN a (by decide)) f (vV I 8 k hx g) (vV I 8 a j i) X.prog X.w X.xe _ ⟨.bl _,H,I,rfl,q⟩
def Hh(K:Za)(neg:Bool):R2:=fun x y H Q=>∃(d:DT) (ds:List DT) (p:Addr) (xs:List V),lH K H d x/\y=.ref p/\(aH K H p xs∨cj K H p xs)/\DIns K H ds xs/\d.depth<=8/\DT.depths ds<=8/\Q (.bl (if neg then !decide (d∈ds)else decide (d∈ds))) H
open Classical in
theorem v5{h:Heap}{d:DT}(g:d.depth<=8):∀{a:List DT}{f:Zf},DAts h a f->DT.depths a<=8->f.any (fun u=>@decide (sS h d u) (propDecidable _))=decide (d∈a)
 |[],f,e,_=>by
  have j:f=[]:=e;subst j
  rfl
 |x::a,f,e,k=>by
  obtain⟨u,l,rfl,i,m⟩:=e;have o:max x.depth (DT.depths a)<=8:=k;rw[u_,v5 g m (by omega)];by_cases q:d=x
  ·subst q;simp[i]
  ·have n:¬sS h d u:=fun z=>q (sS.inj 8 g z i);simp[n,q]
open Classical in
theorem yQ{A:Around}{s:Shared}{d:DT}{v:Value}(g:d.depth<=8)(i:A.units+8<cLine)(j:sS s.heap d v):∀{f:List DT}{a:Zf},DAts s.heap f a->DT.depths f<=8->∀u∈a,aQ A s u v (@decide (sS s.heap d u) (propDecidable _))
 |[],a,e,_,u,hm=>by
  have k:a=[]:=e;subst k;cases hm
 |x::f,a,e,l,u,hm=>by
  obtain⟨r,m,rfl,h,o⟩:=e;have p:max x.depth (DT.depths f)<=8:=l;rcases bA.mp hm with rfl|hm
  ·have q:=FL 8 (A:=A) g i h j;by_cases z:x=d
   ·subst z;rw[zzr1 h];rwa[zzr1 rfl]at q
   ·have n:¬sS s.heap d u:=fun w=>z (sS.inj 8 g w h).symm;rw[zzr0 n];rwa[zzr0 z]at q
  ·exact yQ g i j o (by omega) u hm
theorem Bp(t:X.A.units+16<cLine):n6 X (dZ .NotIn) (Hh X.K true):=by
 intro z s σ H x y v u Q I m n h;obtain⟨d,B,p,xs,hx,rfl,hq,e,f,a,q⟩:=h;cases n;have l:=vV I 8 f hx m;have g:X.A.in1.units+8<cLine:=by show X.A.units+1+8<cLine;omega
 rcases hq with hq|hq
 ·obtain⟨i,r,j,o⟩:=I.list hq;have hi:=vU I a e r;refine SeqAt.notIn_listAt _ j.isList (fun w k=>yQ f g l hi a w (by simpa using k)) ⟨.bl _,H,I,rfl,?_⟩;rw[List.any_toArray,v5 f hi a];exact q
 ·obtain⟨i,r,j,o⟩:=I.tuple hq;have hi:=vU I a e r;refine SeqAt.notIn_tupleAt _ j (fun w k=>yQ f g l hi a w (by simpa using k)) ⟨.bl _,H,I,rfl,?_⟩;rw[List.any_toArray,v5 f hi a];exact q
end
def pV(z:Str)(lo hi:Option Int):Str:=⟨((z.cps.toList.drop (HT.sIx z.length 0 lo)).take (HT.sIx z.length z.length hi-HT.sIx z.length 0 lo)).toArray⟩
theorem sliceRange_one(a b:Nat):sliceRange (a:Int) (b:Int) 1=(bO (b-a)).map (fun k=>a+k):=by
 unfold sliceRange;simp only[show(1:Int) > 0 from by decide,if_true];by_cases h:(a:Int)<(b:Int)
 ·have e:(if(a:Int)<(b:Int)then((b:Int)-a+1-1) / 1 else 0).toNat=b-a:=by rw[if_pos h];omega
  rw[e];exact oy fun k _=>by omega
 ·have e:(if(a:Int)<(b:Int)then((b:Int)-a+1-1) / 1 else 0).toNat=b-a:=by rw[if_neg h];omega
  rw[e];exact oy fun k _=>by omega
theorem xM(v:Option Int)(n d:Nat):(match v with|none=>(d:Int)|some i=>max 0 (min (if i<0 then i+(n:Int)else i) (n:Int)))=((HT.sIx n d v:Nat):Int):=by
 cases v with
 |none=>rfl
 |some i =>
  rw[<-HT.clip_eq i n d];dsimp only;by_cases h:i<0
  ·rw[if_pos h,if_pos h];omega
  ·rw[if_neg h,if_neg h];omega
theorem nv(lo hi:Option Int)(n:Nat):qW lo hi 1 n=(bO (HT.sIx n n hi-HT.sIx n 0 lo)).map (fun k=>HT.sIx n 0 lo+k):=by
 have a:=xM lo n 0;have d:=xM hi n n;rw[<-sliceRange_one,<-a,<-d];unfold qW;simp only[show(1:Int) > 0 from by decide,if_true];cases lo<;>cases hi<;>rfl
theorem Bc(z:Str)(lo hi:Option Int):Txt.slice z lo hi=pV z lo hi:=by
 have j:HT.sIx z.length 0 lo<=z.length:=HT.sIx_le _ _ (dY _) _;have k:HT.sIx z.length z.length hi<=z.length:=HT.sIx_le _ _ (az _) _;have e:z.cps.toList.length=z.length:=by simp[Str.length]
 have d:(qW lo hi 1 z.length).filterMap (z.cps[·]?)=(z.cps.toList.drop (HT.sIx z.length 0 lo)).take (HT.sIx z.length z.length hi-HT.sIx z.length 0 lo):=by
  rw[nv];generalize HT.sIx z.length 0 lo=a at *;generalize HT.sIx z.length z.length hi=b at *;have h:=StrLaws.picks z.cps.toList (b-a) a (by omega);simpa using h
 unfold Txt.slice;by_cases h:((1:Int)==1 && (qW lo hi 1 z.length).length==z.length)=true
 ·rw[if_pos h];have f:(qW lo hi 1 z.length).length=z.length:=by simpa using h
  rw[nv,ao,j3]at f;unfold pV;have g:HT.sIx z.length 0 lo=0:=by omega
  have i:HT.sIx z.length z.length hi-HT.sIx z.length 0 lo=z.cps.toList.length:=by omega
  rw[i,g,qV,bC]
 ·rw[if_neg h];unfold pV;rw[d]
section
variable{X:Cx}
def CD:V->Option Int->Option Int->Hp->VK->Prop:=fun x lo hi H Q=>∃z,x=.str z/\z.length<=aj/\Q (.str (pV z lo hi)) H
theorem vC:SlR X CD:=by
 intro f s σ H x v g m lo hi n Q I p r y e h;obtain⟨z,rfl,B,q⟩:=h;obtain⟨t,rfl⟩:=p;rw[<-Bc]at q;refine⟨"str",_,F.slot_str_getitem.lookup,typeIs_str _ _ _,?_⟩;obtain⟨o,C,D,E⟩:=r;have a:∀(l u:Option (Int×Tok)),g=partValue l->m=partValue u->lo=l.map (·.1)->hi=u.map (·.1)->wpAny (model X.prog X.w) X.A (lY (.str z t) (.ref n)) (EP X f σ Q) X.xe s:=by
  rintro l u rfl rfl rfl rfl;refine wpAny_getItem_str_slice (l:=l) (u:=u) (st:=none) ⟨o,C,D,E⟩ rfl (post_val_or_str ⟨bN (Txt.slice_le z _ _) B,fun d k=>⟨.str _,H,I.tok _,⟨_,rfl⟩,q⟩⟩)
 cases y with
 |none =>
  cases e with
  |none=>exact a none none rfl rfl rfl rfl
  |int j u=>exact a none (some (j,u)) rfl rfl rfl rfl
 |int i d =>
  cases e with
  |none=>exact a (some (i,d)) none rfl rfl rfl rfl
  |int j u=>exact a (some (i,d)) (some (j,u)) rfl rfl rfl rfl
def FB(K:Za):V->List V->Hp->VK->Prop:=fun x vs H Q=>∃z p ys,x=.str z/\vs=[.ref p]/\aH K H p (ys.map V.str)/\(ys.map (·.length)).sum+ys.length * z.length<=16777216/\Q (.str (uX z ys)) H
theorem En{a:Zb}:∀{us:Zf},aP (a.map V.str) us->StrsAre us a:=by
 induction a with
 |nil=>intro us r;cases r;exact .nil
 |cons y a d =>
  intro us r;cases r with
  |cons e f =>
   obtain⟨t,rfl⟩:=e;exact .cons _ _ (d f)
theorem EX:G1 X "str.join" (FB X.K):=by
 intro l s σ H x m v n Q I a d h;obtain⟨z,p,o,rfl,rfl,e,f,q⟩:=h;obtain⟨t,rfl⟩:=a;obtain⟨u,rfl,g⟩:=d.one;cases g;obtain⟨i,r,j,_⟩:=I.list e;exact join_list j.isList (by simpa using En r) f fun w k=>⟨.str _,H,I.tok _,⟨_,rfl⟩,q⟩
end
section
variable{X:Cx}
def DY(K:Za)(H:Hp)(x:V)(t:Value):Prop:=gg K H x t∨(∃a xs,x=.ref a/\t=.type "tuple"/\cj K H a xs)∨(∃a xs,x=.ref a/\t=.type "list"/\aH K H a xs)
theorem y8{j:Zd}{σ:St}{H:Hp}{s:Shared}{A:Around}{E:Zc}{Q:Zc}{c:Value}{b:Bool}{x:V}{u t:Value}(I:Inv X j σ H s)(d:RelV x u)(ty:DY X.K H x t)(e:gC X.K t c=some b)(h:∀tk,Q (.bool b) { s with toks:=tk }):
  wpAny (model X.prog X.w) A (call (.builtin "isinstance") [u,c]) Q E s:=by
 rcases ty with ty|⟨a,xs,rfl,rfl,q⟩|⟨a,xs,rfl,rfl,q⟩
 ·exact BB I d ty e h
 ·cases(show u=Value.ref a from d);obtain⟨f,k,p,l⟩:=I.tuple q;obtain⟨o,g,i,_⟩:=p;exact iu PySem.W.kitx_tuple I.kIn ⟨o,g,i⟩ e (fun z=>nomatch z) h
 ·cases(show u=Value.ref a from d);obtain⟨f,k,p,l⟩:=I.list q;obtain⟨o,n,g,i,_⟩:=p;exact iu PySem.W.kitx_list I.kIn ⟨o,g,i⟩ e (fun z=>nomatch z) h
theorem d9:fq X (.builtin "isinstance") (fun xs H Q=>∃x c t b,xs=[x,.ty c]/\DY X.K H x t/\gC X.K t (.type c)=some b/\Q (.bl b) H):=by
 intro f s σ H xs g Q I r h;obtain⟨x,c,t,b,rfl,ty,a,q⟩:=h;obtain⟨u,v,rfl,d,e⟩:=vals2 r;cases(show v=Value.type c from e);exact y8 I d ty a fun tk=>⟨.bl b,H,I.tok _,rfl,q⟩
theorem DO{bs:List Bool}{a:Zf}(r:aP (bs.map V.bl) a){i:Nat}{v:Value}(h:a[i]?=some v):v=.bool ((bs[i]?).getD false)/\i<bs.length:=by
 have hi:i<a.length:=(gE.mp h).1;have f:=r.length;rw[ao]at f;have d:i<bs.length:=by omega
 obtain⟨u,e,g⟩:=r.get (i:=i) (x:=V.bl bs[i]) (by simp[d]);rw[h]at e;cases e;refine⟨?_,d⟩;rw[bZ d];exact g
theorem v6(bs:List Bool):((bO bs.length).all fun i=>(bs[i]?).getD false)=bs.all id:=by
 induction bs with
 |nil=>rfl
 |cons b bs a =>
  rw[dj,List.range_succ_eq_map,List.all_cons,List.all_map,List.all_cons,<-a]
  rfl
theorem pO(k:X.calm=true):fq X (.builtin "all") (fun xs H Q=>∃(p:Addr) (bs:List Bool),xs=[.ref p]/\aH X.K H p (bs.map V.bl)/\Q (.bl (bs.all id)) H):=by
 intro l s σ H xs D Q I r h;obtain⟨p,bs,rfl,m,q⟩:=h;obtain⟨u,rfl,t⟩:=vals1 r;cases t;obtain⟨a,g,d,E⟩:=I.list m;obtain⟨o,n,x,_⟩:=id d;have j:=g.length;rw[ao]at j;refine call_all_walk (zU d.isList ?_);refine⟨s.heap.objs.size,_,_,_,_,_,fun i=>(bs[i]?).getD false,rfl,Walks.list (prog:=X.prog) (w:=X.w) (A:=X.A.in1) (I.ok.hd k) s.heap.objs.size p (bB (ar x)) a.toArray,⟨⟨_,bF _ rfl,rfl,rfl⟩,d.isList.push _⟩,?_,?_⟩
 ·intro i v G J L y f;obtain⟨e,_⟩:=DO g (i:=i) (v:=v) (by simpa using y);rw[e];exact qP f
 ·intro z tk B;have C:Inv X l σ H { s with heap:=z,toks:=tk }:=I.kept fun b o e=>B b o (by simp;exact bB (ar e)) (aF _ e);rw[bt,<-j,v6];exact⟨.bl _,H,C,rfl,q⟩
theorem yO:n6 X (dZ .In) (fun x y H Q=>∃c j,x=.str ⟨#[c]⟩/\y=.str j/\Q (.bl (decide (c∈j.cps.toList))) H):=by
 intro a s σ H x y v u Q I d e h;obtain⟨c,j,rfl,rfl,q⟩:=h;rw[<-StrLaws.found_one]at q;exact Bq a s σ H _ _ v u Q I d e ⟨_,_,rfl,rfl,q⟩
theorem sE(O:X.calm=true):fq X (.type "list") (fun xs H Q=>∃(d:Addr) (f:List (dg×V)),xs=[.ref d]/\Rd H d (.dK f)/\∀l,H l=none->Q (.ref l) (upd H l (.lst (f.map fun g=>kV g.1)))):=by
 intro J2 s σ H xs us Q I r h;obtain⟨d,f,rfl,T,q⟩:=h;obtain⟨u,rfl,U⟩:=vals1 r;cases U;obtain⟨z,n,M,y,Y⟩:=pN I.hok T;obtain⟨ep,E⟩:=Y.dictAt;have hl:=y.length;refine PySem.W.kdl_call (PySem.W.kdl_dict (knd:=bv X.prog X.w) (kvs:=M) (ep:=ep) n) (I.ok.hd O) E (by rw[<-hl];exact z) fun h' tk m c G hD A=>?_;have B:aP (f.map fun g=>kV g.1) m.toList:=by
  obtain⟨hn,hP⟩:=A;have J:∀(a:Zf) (L:List (dg×V)) (C:List (dg×Value)),KV L C->a.length=C.length->(∀(j:Nat) (v:Value),a[j]?=some v->∃k x,C[j]?=some (k,x)/\(bv X.prog X.w).is k v=true)->aP (L.map fun g=>kV g.1) a:=by
   intro a L C rl
   induction rl generalizing a with
   |nil=>intro D _;cases a with
    |nil=>exact .nil
    |cons _ _=>cases D
   |@cons p w' ps ab hp _ ih =>
    intro D N;cases a with
    |nil=>cases D
    |cons v a =>
     obtain⟨k,x,e,G⟩:=N 0 v rfl;have e':w'=(k,x):=by simpa using e
     refine .cons ?_ (ih a (by simpa using D) fun j v B=>by simpa using N (j+1) v (by simpa using B));have ek:p.1=k:=by rw[hp.1,e']
     show RelV (kV p.1) v;rw[ek];rcases ax (show dq k v=true from G)with⟨i,t,rfl,rfl⟩|⟨i,t,rfl,rfl⟩
     ·exact⟨t,rfl⟩
     ·exact⟨t,rfl⟩
  exact J m.toList f M y (by rw[lJ];exact hn) fun j v B=>hP j v (by rw[<-Array.getElem?_toList];exact B)
 refine⟨.ref s.heap.objs.size,_,I.laid (o:=.lst (f.map fun g=>kV g.1)) G (az _) ⟨by rw[ao];exact z,m.toList,c,B,by rw[Array.toArray_toList];exact hD⟩,rfl,q _ I.fresh⟩
end
section
variable{prog:aU}{w:World}{K:Type}[DecidableEq K]{knd:HeapKind prog w K}{A:Around}{E:Zc}{s:Shared}
theorem rC{d a:Addr}{xs:List (K×Addr×Value)}{k:K}{v:Value}{Q:Zc}(t:knd.room A)(f:knd.is s.heap k a)(B:s.heap.DictOfH knd d xs)
  (there:∀p,atKey xs k=some p->Q p.2 { s with toks:=s.toks+knd.draws k })
  (new:atKey xs k=none->∀q,q.DictOfH knd d (xs++[(k,a,v)])->dP d s.heap q->Q v { s with heap:=q,toks:=s.toks+knd.draws k })
  (C:xs.length<=aj):wpAny (model prog w) A (dictSetDefault d (.ref a) v) Q E s:=by
 obtain⟨o,H,D,h,G,g,n,i,r⟩:=B;unfold dictSetDefault
 try with_reducible refine fz ?_
 refine ac (knd.pyHash t f ?_);refine ac (wpAny_dictFind_heap (s:={ s with toks:=s.toks+knd.draws k }) t f h g n i r ?_ ?_)
 ·intro l;have m:k∉xs.map (·.1):=not_mem_keys_of_get l;refine ac (mZ (ac (wpAny_updateDictKeys (hz:=by have e:=size_of_entries n;omega) (s:={ s with toks:=s.toks+knd.draws k }) h g (ak (new (atKey_none_of_get l) _ ⟨_,_,D+1,eU _ h (Obj.isFreed_of_dict (Obj.data_mapDictKeys g _)),
   G.mapDictKeys _,Obj.data_mapDictKeys g _,?_,?_,?_⟩ (j6 ..))))))
  ·simp[n,entryOfKey]
  ·intro x hx;rcases bM.mp hx with hx|hx
   ·exact knd.keeps (i x hx) h g (j6 ..)
   ·simp only[eT]at hx;subst hx;exact knd.keeps f h g (j6 ..)
  ·rw[aD,cD];refine⟨r,by simp,?_⟩;intro x hx y u;simp only[bg,oE,eT]at u;subst u;exact fun e=>m (e▸hx)
 ·intro j p z;refine ac (lT (s:={ s with toks:=s.toks+knd.draws k }) h g ?_);rw[entry_at n j,z];exact ac (mZ (ak (there p (atKey_of_get r z))))
theorem nL(knd:HeapKind prog w K)(d a:Addr)(j:(d==d4)=false)(dflt:Value):
  MeetsIn prog w (aS.«dict.setdefault» ⟨[.ref d,.ref a,dflt],[]⟩) (fun A R s=>knd.room A.in1/\∃k xs,knd.is s.heap k a/\s.heap.DictOfH knd d xs/\xs.length<=aj /\
   (∀p,atKey xs k=some p->R (.ok (.ret p.2)) { s with toks:=s.toks+knd.draws k }) /\
   (atKey xs k=none->∀e,e.DictOfH knd d (xs++[(k,a,dflt)])->dP d s.heap e->R (.ok (.ret dflt)) { s with heap:=e,toks:=s.toks+knd.draws k })) :=
 .of_wp fun A R s ⟨l,k,xs,f,i,m,n,o⟩=>by
  unfold aS.«dict.setdefault»;refine ac ?_;unfold aS.Dict.keyAndDefault;refine ac (uW i.typeIs ?_);show wpAny _ _ (pure (d,Value.ref a,some dflt)) _ _ s;refine ak ?_;show wpAny _ _ (if(d==d4)=true then _ else(dictSetDefault d (.ref a) dflt >>= _)) _ _ s
  rw[if_neg (by rw[j];exact fX)];exact ac (rC l f i (fun p q=>ak ⟨p.2,rfl,n p q⟩) (fun r e g h=>ak ⟨dflt,rfl,o r e g h⟩) m)
end
section
variable{X:Cx}
def Al:V->List V->Hp->VK->Prop:=fun x vs H Q=>∃(d b:Addr) (kvs:List (TK×V)) (k:TK) (z:V),x=.ref d/\vs=[.ref b,z]/\H d=some (.dT kvs)/\fx H k (.ref b)/\k.depth<=8/\kvs.length<aj /\
 (∀v,bL kvs k=some v->Q v H)/\(bL kvs k=none->Q z (upd H d (.dT (kvs++[(k,z)]))))
theorem Bs(C:X.A.units+16<cLine):G1 X "dict.setdefault" Al:=by
 intro J2 s σ H x vs v us Q I D E h;obtain⟨d,b,a,k,z,rfl,rfl,l,n,j,hz,G,J⟩:=h;cases D;obtain⟨u,v,rfl,L,q⟩:=E.two;cases L;obtain⟨_,g,xs,f,r⟩:=Dy I.hok I.kIn l;have hl:a.length=xs.length:=Paired.length f;refine call_meetsIn PySem.F.slot_dict_setdefault r.typeIs PySem.F.entry_dict_setdefault (PySem.F.args_dict_setdefault_3 _ _ _) (nL (d6 X.prog X.w) d b g v)
  ⟨fJ C,k,xs,vP I.hok I.kIn (fx.c 8 j n) j,r,by omega,fun p M=>?_,fun N h' m O=>?_⟩
 ·have e:=f.val k;rw[M]at e;cases i:bL a k with
  |none=>rw[i]at e;exact e.elim
  |some y =>
   rw[i]at e;exact⟨y,H,I.tok _,e,G y i⟩
 ·have e:=f.val k;rw[N]at e;have i:bL a k=none:=by
   cases i:bL a k with
   |none=>rfl
   |some y=>rw[i]at e;exact e.elim
  obtain⟨o,T,U,t,Y,h3,h4,_,h5⟩:=m;refine⟨z,_,nS (ob:=.dT (a++[(k,z)])) I (by rw[l];exact fy) O ⟨o,t⟩ ⟨by rw[aL,List.length_singleton];omega,g,_,KT.keeps (kvs:=a++[(k,z)]) (xs:=xs++[(k,b,v)]) (iV f ⟨rfl,fx.c 8 j n,j,q⟩) fun c ys B=>?_,o,T,U,t,Y,h3,h4,h5⟩,q,J i⟩;rw[ah (C6 B l (fun z=>nomatch z))];exact B
end
theorem kF:entryFor table "dict.update.loop"=some aS.«dict.update.loop»:=entryFor_of_fast (by kernel_rfl)
theorem ff:plainId "dict.update.loop"=true:=by decide +kernel
theorem vN:j9 (.type "list") "keys"=pure none:=am_miss_of_fast (by decide +kernel)
section
variable{prog:aU}{w:World}{A:Around}{E:Zc}{s:Shared}
theorem Bu{a:Addr}{o:Obj}{xs:Array Value}{k:Nat}{Q:Option Value->Shared->Prop}(hx:s.heap.get? a=some o)(m:o.cls=.type "list")(f:o.data=.seq xs k)(n:o.dict=none)(r:A.handled=none)
  (h:∀l tk,(∀b p,s.heap.get? b=some p->l.get? b=some p)->Q none { s with heap:=l,toks:=tk }):wpAny (model prog w) A (uV (.ref a) "keys") Q E s:=by
 obtain⟨c,t,u,v⟩:=o;simp only at m f n;subst m f n;obtain⟨x,g,d,tk,os⟩:=s;have q:∀i,(⟨x,g,d,i,os⟩:Shared).TypeIs (.ref a) "list":=fun _=>⟨_,hx,rfl⟩;have y:=sub_AttributeError;have z:=F.slot_list_getattribute.lookup;have B:=F.slot_list_getattribute.bind (.ref a);have C:=am_list_getattr_none;unfold uV getAttrBy? getAttrBy
 repeat (any_goals (first|assumption|exact q _|((with_reducible show wpAny _ _ (call (wr "list.__getattribute__") _ _) _ _ _);refine vb F.slot_list_getattribute (q _) am_entry_list_getattribute (F.args_list_getattribute_2 _ _) (meets_getattribute_miss_list a xs k v "keys" _ vN (by decide +kernel) (by decide +kernel)) ⟨hx,r,fun l i e j=>?_⟩)|wp_step))
 obtain⟨D,G,H⟩:=j.there;show wpAny _ _ (getattributeRaised _ _ _ _ _ _ _) _ _ _;unfold getattributeRaised hookOrError attributeErrorLeaves
 repeat (any_goals (first|assumption|wp_step))
 all_goals first|exact h _ _ j.keeps|trace_state
def zA(h:Heap)(u:Value)(kv:dg×Value):Prop:=∃t ku,u=.ref t/\h.IsTuple t #[ku,kv.2]/\dq kv.1 ku=true
theorem yt{κ:Type}[DecidableEq κ](a:List (κ×Value))(k:κ)(v:Value):(stored a k v).length<=a.length+1:=by
 unfold stored;split
 ·rw[ao];omega
 ·rw[aL,List.length_singleton];exact az _
theorem Ca{R:Result->Shared->Prop}(hh:A.handled=none){D it l:Addr}{items:Array Value}{ps:List (dg×Value)}(z:D≠it)(Q:l≠it)(T:l≠D)(a6:ps.length=items.size):
  ∀(n i:Nat) (s:Shared) (a:List (dg×Value)),items.size-i=n->i<=items.size->a.length+(items.size-i)<=aj->s.heap.IsListIter it l i->s.heap.IsList l items->s.heap.DictOf (bv prog w) D a ->
   (∀(j:Nat) (u:Value) (M:dg×Value),items[j]?=some u->ps[j]?=some M->zA s.heap u M) ->
   (∀y tk,y.DictOf (bv prog w) D (merged a (ps.drop i))->(∀b o,b≠D->b≠it->s.heap.get? b=some o->y.get? b=some o)->R (.ok (.ret .none)) { s with heap:=y,toks:=tk }) ->
   zzl87 (model prog w) A (.builtin "dict.update.loop" ⟨[.ref D,.ref it,rawInt i,.none],[]⟩) R s:=by
 intro n
 induction n with
 |zero =>
  intro i s a hn hi hz m N O U Y;have e:i=items.size:=by omega
  subst e;refine qU kF ?_;rw[qS ff _];show wpAny _ A.in1 (pyNext (.ref it) >>= _) _ _ s;refine ac (wpAny_pyNext_list_end hh m N (by simp) fun y eb=>?_);show wpAny _ _ (aS.Dict.addKeywords D [] >>= _) _ _ _;refine ac (ak (ak ?_));have B:y.DictOf (bv prog w) D a:=O.extBut eb z;have q:=Y y s.toks (by rw[uU (by omega)];exact B) fun b o _ hb e=>eb b o hb e;exact q
 |succ n ih =>
  intro i s a hn hi hz m N O U Y;have H:i<items.size:=by omega
  refine qU kF ?_;rw[qS ff _];show wpAny _ A.in1 (pyNext (.ref it) >>= _) _ _ s;have hu:items[i]?=some items[i]:=by simp[H]
  have hk:ps[i]?=some ps[i]:=bZ (by omega);obtain⟨t,ku,eu,ht,ab⟩:=U i _ _ hu hk;refine ac (wpAny_pyNext_list_item m N (x:=items[i]) hu fun g I al=>?_);rw[eu];have h:dP it s.heap g:=al;have nt:t≠it:=by
   rintro rfl;obtain⟨o,C,J,_⟩:=ht;obtain⟨o',d,f,_⟩:=m;rw[C]at d;cases d;rw[J]at f;simp at f
  have L:g.IsTuple t #[ku,ps[i].2]:=ht.extBut h.extBut nt;have an:Shared.TypeIs { s with heap:=g } (.ref t) "tuple":=L.typeIs (s:={ s with heap:=g });obtain⟨ot,ap,a7,a8,as⟩:=id L;refine ac (fz ?_);refine ac (wpAny_tryCatch ?_);unfold aS.Dict.pairItems;refine ac (wpAny_typeOf an ?_);rw[if_pos (by decide)];refine ac (i9 ap as (ak ?_));show wpAny _ _ (i7 [ku,ps[i].2] (dictSet D ku ps[i].2)) _ _ _;have aC:g.DictOf (bv prog w) D a:=O.extBut h.extBut z;refine fz (wpAny_dictSet_pairs (knd:=bv prog w) (k:=ps[i].1) ab aC (fun v aN aT=>?_) (by omega));have p:dP D g v:=aT;show wpAny _ _ (again _) _ _ _;refine ak ⟨qR ff _,?_⟩;have aX:g.IsList l items:=N.extBut h.extBut Q;have kp:∀b o,b≠D->b≠it->s.heap.get? b=some o->v.get? b=some o:=fun b o g v e=>p.extBut b o g (h.extBut b o v e);refine ih (i+1) _ (stored a ps[i].1 ps[i].2) (by omega) H (by have:=yt a ps[i].1 ps[i].2;omega) (I.extBut p.extBut (br z)) (aX.extBut p.extBut T) aN (fun j u M g v=>?_) fun y tk B a0=>?_
  ·obtain⟨t2,a4,e2,G,a5⟩:=U j u M g v;have n1:t2≠it:=by
    rintro rfl;obtain⟨o,C,J,_⟩:=G;obtain⟨o',d,f,_⟩:=m;rw[C]at d;cases d;rw[J]at f;simp at f
   have n2:t2≠D:=by
    rintro rfl;obtain⟨o,C,J,_⟩:=G;obtain⟨o',_,_,d,f,_⟩:=O;rw[C]at d;cases d;have:=f.1;rw[J]at this;simp at this
   obtain⟨o,C,r⟩:=G;exact⟨t2,a4,e2,⟨o,kp _ o n2 n1 C,r⟩,a5⟩
  ·refine Y y tk ?_ fun b o g v e=>a0 b o g v (kp b o g v e);have ed:ps.drop i=ps[i]::ps.drop (i+1):=List.drop_eq_getElem_cons (by omega);rw[ed];exact B
theorem pW{l:Addr}{o:Obj}{items:Array Value}{n:Nat}{ps:List (dg×Value)}{Q:Zc}(N:A.handled=none)(O:s.heap.get? l=some o)(H:o.cls=.type "list")(q:o.data=.seq items n)(I:o.dict=none)
  (J:ps.length=items.size) (hp:∀(j:Nat) (u:Value) (G:dg×Value),items[j]?=some u->ps[j]?=some G->zA s.heap u G) (hz:items.size<=aj)
  (h:∀v tk,v.DictOf (bv prog w) s.heap.objs.size (merged [] ps)->(∀b o,s.heap.get? b=some o->v.get? b=some o)->Q (.ref s.heap.objs.size) { s with heap:=v,toks:=tk }) :
  wpAny (model prog w) A (call (.type "dict") [.ref l]) Q E s:=by
 refine callType_codes (Q₁:=fun x k=>x=.ref s.heap.objs.size/\k={ s with heap:=s.heap.push { cls:=.type "dict",data:=.dict #[] } }) F.kt_called_dict (F.kt_typeCall_dict_1 _) F.entry_dict_init (kt_code_dict_new _ ⟨rfl,rfl⟩) ?_;rintro x k ⟨rfl,rfl⟩;have d:(s.heap.push { cls:=.type "dict",data:=.dict #[] }).DictOf (bv prog w) s.heap.objs.size []:=Heap.DictOf.new s.heap;have m:(s.heap.push { cls:=.type "dict",data:=.dict #[] }).get? l=some o:=aF _ O;have y:l<s.heap.objs.size:=ar O;refine⟨d.typeIs,F.args_dict_init_2 _ _,?_⟩;unfold aS.«dict.__init__»;refine ac ?_;unfold aS.Dict.selfAndRest;refine ac (uW d.typeIs ?_);show wpAny _ _ (pure (s.heap.objs.size,[Value.ref l])) _ _ _;refine ak ?_;show wpAny _ _ (aS.Dict.updateFrom "dict.__init__" s.heap.objs.size (.ref l) [] .none) _ _ _;unfold aS.Dict.updateFrom;have L:Shared.TypeIs { s with heap:=s.heap.push { cls:=.type "dict",data:=.dict #[] } } (.ref l) "list":=⟨o,m,H⟩;refine ac (wpAny_typeOf L ?_);rw[if_pos (by decide)];refine ac (Bu m H q I N fun p M k1=>?_);have i:∀b ob,(s.heap.push { cls:=.type "dict",data:=.dict #[] }).get? b=some ob->p.get? b=some ob:=k1;rw[if_pos (by rfl:(none:Option Value).isNone=true)];refine ac (mZ ?_);have z:p.IsList l items:=⟨o,i _ _ m,H,n,q⟩;refine ac (zU (s:={ s with heap:=p,toks:=M }) z ?_);have B:p.DictOf (bv prog w) s.heap.objs.size []:=by
  obtain⟨T,U,Y,g,r⟩:=d;exact⟨T,U,Y,i _ _ g,r⟩
 have f:s.heap.objs.size<p.objs.size:=by
  obtain⟨T,U,Y,g,r⟩:=B;exact ar g
 refine ak ⟨qR ff _,?_⟩;refine Ca (A:=A.in1) (prog:=prog) (w:=w) N (D:=s.heap.objs.size) (it:=p.objs.size) (l:=l) (items:=items) (ps:=ps) (bB f) (bB (Nat.lt_trans y f)) (bB y) J items.size 0 _ [] (Nat.sub_zero _) (dY _) (by rw[rm];omega)
  ⟨_,bF _ rfl,rfl,rfl⟩ (z.push _) (B.push _) (fun j u G a b=>?_) fun v tk C kp=>?_
 ·obtain⟨t,ku,e,ht,hk⟩:=hp j u G a b;obtain⟨ot,g,r⟩:=ht;exact⟨t,ku,e,⟨ot,aF _ (i _ _ (aF _ g)),r⟩,hk⟩
 ·rw[qV]at C;refine⟨rfl,h v tk C fun b ob e=>kp b ob (bB (ar e)) (bB (Nat.lt_trans (ar e) f)) (aF _ (i _ _ (aF _ e)))⟩
end
section
variable{X:Cx}
theorem v3(hc:X.calm=true):fq X (.type "dict") (fun xs H Q=>∃(l:Addr) (g:Ze) (d:List (dg×V)),xs=[.ref l]/\aH X.K H l (g.map V.ref)/\g.length=d.length /\
  (∀(j:Nat) (t:Addr) (f:dg×V),g[j]?=some t->d[j]?=some f->H t=some (.tup [kV f.1,f.2]))/\∀p,H p=none->Q (.ref p) (upd H p (.dK (gv [] d)))):=by
 intro J2 s σ H xs us Q I r h;obtain⟨l,g,d,rfl,m,y,C,q⟩:=h;obtain⟨u,rfl,ru⟩:=vals1 r;cases ru;obtain⟨D,U,⟨o,n,ho,E,G,J⟩,L⟩:=I.list m;have M:∀(g:Ze) (d:List (dg×V)),g.length=d.length->(∀(j:Nat) (t:Addr) (f:dg×V),g[j]?=some t->d[j]?=some f->H t=some (.tup [kV f.1,f.2]))->∃v:List (dg×Value),KV d v/\∀(j:Nat) (t:Addr) (f:dg×Value),g[j]?=some t->v[j]?=some f->zA s.heap (.ref t) f:=by
  intro g
  induction g with
  |nil =>
   intro d m _;cases d with
   |nil=>exact⟨[],.nil,fun j t f e=>by simp at e⟩
   |cons _ _=>cases m
  |cons t g ih =>
   intro d m C;cases d with
   |nil=>cases m
   |cons f d =>
    obtain⟨v,N,r2⟩:=ih d (by simpa using m) fun j O k a b=>C (j+1) O k (by simpa using a) (by simpa using b);obtain⟨_,ab,rt,p⟩:=(show aZ X.prog X.w X.K H s.heap t (.tup [kV f.1,f.2])from I.hok t _ (C 0 t f rfl rfl));obtain⟨a,b,e,ra,rb⟩:=rt.two;subst e;refine⟨(f.1,b)::v,.cons ⟨rfl,rb⟩ N,fun j O k z T=>?_⟩;cases j with
    |zero =>
     simp at z T;subst z T;exact⟨t,a,rfl,p,nN (P:=X.prog) (w:=X.w) ra⟩
    |succ j=>exact r2 j O k (by simpa using z) (by simpa using T)
 obtain⟨v,A,pa⟩:=M g d y C;have B:=U.length;rw[ao]at B;have al:=A.length;refine pW (prog:=X.prog) (w:=X.w) (ps:=v) (I.ok.hd hc) ho E J G (by rw[bt];omega) (fun j u f a b=>?_) (by rw[bt,<-B];rw[ao]at L;exact L) fun h' tk hD kp=>?_
 ·have Y:D[j]?=some u:=by simpa using a
  have hj:j<g.length:=by
   have:=(gE.mp Y).1;omega
  obtain⟨u',e1,N⟩:=U.get (i:=j) (x:=V.ref g[j]) (by simp[hj]);rw[Y]at e1;cases e1;cases(show u=Value.ref g[j]from N);exact pa j g[j] f (by simp[hj]) b
 ·have hm:(gv [] d).length<=aj:=by
   have z:=iZ d [];rw[rm]at z;rw[ao]at L;omega
  exact⟨.ref s.heap.objs.size,_,I.laid (o:=.dK (gv [] d)) kp (az _) (zc hm (beq_eq_false_iff_ne.mpr (br (bB I.big))) (A.merge .nil) hD),rfl,q _ I.fresh⟩
end
abbrev bP:R2:=B1 fun i j=>.int (i+j)
abbrev jR:R2:=rI DU fun i j=>.int (i * j)
abbrev fb:R2:=rI (fun _ j=>0<j) fun i j=>.int (i % j)
abbrev Ao:R2:=rI HK fun i j=>.int (i / j)
abbrev FA:R2:=rI HJ fun i j=>.int (i ^ j.toNat)
abbrev EB:R2:=B1 fun i j=>.bl (decide (i<j))
abbrev rLeI:R2:=B1 fun i j=>.bl (decide (i<=j))
abbrev CH:R2:=B1 fun i j=>.bl (decide (j<i))
abbrev rGeI:R2:=B1 fun i j=>.bl (decide (j<=i))
abbrev Ap:R2:=fun x y H Q=>∃i j,x=.str i/\y=.str j/\i.length+j.length<=aj/\Q (.str (i++j)) H
abbrev rInS:R2:=fun x y H Q=>∃c j,x=.str ⟨#[c]⟩/\y=.str j/\Q (.bl (decide (c∈j.cps.toList))) H
abbrev CG:R2:=fun x y H Q=>∃b,y=.bl b/\Q (.bl (decide (x=.bl b))) H
abbrev h9(K:Za):List V->Hp->VK->Prop:=fun xs H Q=>∃x c t b,xs=[x,.ty c]/\DY K H x t/\gC K t (.type c)=some b/\Q (.bl b) H
abbrev Hi(K:Za):List V->Hp->VK->Prop:=fun xs H Q=>∃(p:Addr) (bs:List Bool),xs=[.ref p]/\aH K H p (bs.map V.bl)/\Q (.bl (bs.all id)) H
abbrev Fz(K:Za):List V->Hp->VK->Prop:=fun xs H Q=>∃p ys,xs=[.ref p]/\((aH K H p ys/\∀l,H l=none->Q (.ref l) (upd H l (.tup ys)))∨(cj K H p ys/\Q (.ref p) H))
abbrev EF(K:Za):List V->Hp->VK->Prop:=fun xs H Q=>∃(l:Addr) (ts:Ze) (kvs:List (dg×V)),xs=[.ref l]/\aH K H l (ts.map V.ref)/\ts.length=kvs.length /\
  (∀(j:Nat) (t:Addr) (kv:dg×V),ts[j]?=some t->kvs[j]?=some kv->H t=some (.tup [kV kv.1,kv.2]))/\∀p,H p=none->Q (.ref p) (upd H p (.dK (gv [] kvs)))
abbrev dU(K:Za):List V->Hp->VK->Prop:=fun xs H Q =>
 (∃p ys,xs=[.ref p]/\(aH K H p ys∨cj K H p ys)/\∀l,H l=none->Q (.ref l) (upd H l (.lst ys))) ∨
 (∃(d:Addr) (kvs:List (dg×V)),xs=[.ref d]/\Rd H d (.dK kvs)/\∀l,H l=none->Q (.ref l) (upd H l (.lst (kvs.map fun kv=>kV kv.1))))
abbrev f8(K:Za):List V->Hp->VK->Prop:=fun xs H Q =>
 (∃p ys,xs=[.ref p]/\(aH K H p ys∨cj K H p ys)/\Q (.int ys.length) H)∨(∃z,xs=[.str z]/\z.length<=aj/\Q (.int z.length) H)
theorem cA:gZ "isinstance"=some (.builtin "isinstance"):=by decide +kernel
theorem mD:gZ "list"=some (.type "list"):=by decide +kernel
theorem kG:gZ "tuple"=some (.type "tuple"):=by decide +kernel
theorem zm:gZ "dict"=some (.type "dict"):=by decide +kernel
theorem zn:gZ "bool"=some (.type "bool"):=by decide +kernel
theorem uz:gZ "int"=some (.type "int"):=by decide +kernel
theorem BR:gZ "str"=some (.type "str"):=by decide +kernel
section
variable{X:Cx}{p pos:Pos}
theorem BP:fq X (.builtin "len") (f8 X.K):=vZ.or vY
theorem zk(a:X.calm=true):fq X (.type "list") (dU X.K):=vX.or (sE a)
theorem vL:n6 X (dZ .Is) CG:=by
 intro g s σ H x y v u Q I f j h;obtain⟨b,rfl,q⟩:=h;cases(show u=Value.bool b from j);have d:∀k:Bool,k=decide (x=.bl b)->EP X g σ Q (.bool k) s:=fun k e=>⟨.bl k,H,I,rfl,by rw[e];exact q⟩;cases x with
 |non=>cases(show v=Value.none from f);exact ak (d _ rfl)
 |bl a =>
  cases(show v=Value.bool a from f);refine ak (d _ ?_);cases a<;>cases b<;>rfl
 |int i=>obtain⟨t,rfl⟩:=f;exact ak (d _ rfl)
 |str i=>obtain⟨t,rfl⟩:=f;exact ak (d _ rfl)
 |byt i=>obtain⟨t,rfl⟩:=f;exact ak (d _ rfl)
 |flt i=>obtain⟨t,rfl⟩:=f;exact ak (d _ rfl)
 |ref a=>cases(show v=Value.ref a from f);exact ak (d _ rfl)
 |ty n=>cases(show v=Value.type n from f);exact ak (d _ rfl)
theorem yJ(a:Gl X "bool")(d:X.mg "bool"=none):PE X (.Name "bool" pos) (tC (.ty "bool")):=kR a d zn rfl
theorem uh(a:Gl X "int")(d:X.mg "int"=none):PE X (.Name "int" pos) (tC (.ty "int")):=kR a d uz rfl
theorem ug(a:Gl X "str")(d:X.mg "str"=none):PE X (.Name "str" pos) (tC (.ty "str")):=kR a d BR rfl
theorem mw(a:Gl X "list")(d:X.mg "list"=none):PE X (.Name "list" pos) (tC (.ty "list")):=kR a d mD rfl
theorem pG(a:Gl X "tuple")(d:X.mg "tuple"=none):PE X (.Name "tuple" pos) (tC (.ty "tuple")):=kR a d kG rfl
end
def Gc(mg:Str->Option Value)(x:Str)(v:V):Prop:=∃u,mg x=some u/\RelV v u
theorem ko{X:Cx}{x:Str}{v:V}{a:Pos}(d:Gl X x)(h:Gc X.mg x v)(e:(x==("__debug__":Str))=false:=by decide):PE X (.Name x a) (tC v):=by
 obtain⟨u,f,r⟩:=h;exact qv d f r e
structure lQ(P:aU)(w:World)(K:Za)(mg:Str->Option Value)(base:Heap)(x:Str)(ps:Zb)(k:Nat)(sp:Sp):Prop where
 ex:∃f fd,ig P w K mg base CX0 k f fd ps sp/\mg x=some (.ref f)/\dh K (.ref f)=true/\Binds K fd ps []
structure New(P:aU)(w:World)(K:Za)(mg:Str->Option Value)(base:Heap)(x:Str)(C:Addr)(ps:Zb)(k:Nat)(sp:Sp):Prop where
 ex:∃f fd,ig P w K mg base CX0 k f fd ps sp/\mg x=some (.ref C)/\Mk K C f/\Binds K fd ps []
structure DQ(P:aU)(w:World)(K:Za)(mg:Str->Option Value)(base:Heap)(C:Addr)(m:Str)(ps:Zb)(k:Nat)(sp:Sp):Prop where
 ex:∃f fd,ig P w K mg base CX0 k f fd ps sp/\xV K C/\DR K C m f/\Binds K fd ps []
section
variable{X:Cx}{k:Nat}{ps:Zb}{sp:Sp}{x m:Str}{C:Addr}{p pos J4:Pos}{o e:Expr}{es:List Expr}{t:TA}{ta:TE}
theorem FE(D:lQ X.prog X.w X.K X.mg X.base x ps k sp)(g:cV k X.A)(h:Gl X x)(i:PA X (e::es) t)(a:(x==("__debug__":Str))=false:=by decide)
  (j:aq (e::es) X.env=(false,eval e X.env)::aq es X.env:=by rfl) (d:(backTo pos (aq es X.env)).any (·.1)=false:=by rfl) :
  PE X (.Call (.Name x p) (e::es) [] pos) (bG sp t):=by
 obtain⟨f,r,F,l,n,q⟩:=D.ex;exact ER F g h l n q .nil Ax i a j d
theorem Go(D:New X.prog X.w X.K X.mg X.base x C ps k sp)(g:cV (k+1) X.A)(h:Gl X x)(i:PA X (e::es) t)(a:(x==("__debug__":Str))=false:=by decide)
  (j:aq (e::es) X.env=(false,eval e X.env)::aq es X.env:=by rfl) (d:(backTo pos (aq es X.env)).any (·.1)=false:=by rfl) :
  PE X (.Call (.Name x p) (e::es) [] pos) (rJ C sp [] E0 t):=by
 obtain⟨f,q,F,l,M,n⟩:=D.ex;exact EN M F g h l n .nil Ax i a j d
theorem Gp{pl:Sem Bool}(M:DQ X.prog X.w X.K X.mg X.base C m ps k sp)(h:cV k X.A)(i:PE X o ta)(j:PA X (e::es) t)
  (a:aq (e::es) X.env=(false,eval e X.env)::aq es X.env:=by rfl) (d:(backTo pos (aq es X.env)).any (·.1)=false:=by rfl)
  (l:eval (.Call (.Attribute o m J4) (e::es) [] pos) X.env=(do
   let g <- eval o X.env
   mY J4.atName
   let(f,first) <- i7 [g] (mV g m pl)
   l9 pos f first (backTo pos (aq (e::es) X.env)) (iY pos (iX [] X.env))):=by rfl) :
  PE X (.Call (.Attribute o m J4) (e::es) [] pos) (fZ C m sp [] E0 ta t):=by
 obtain⟨f,r,F,c,n,q⟩:=M.ex;exact EM i c n F h q .nil Ax j a d l
theorem EL{pl:Sem Bool}(M:DQ X.prog X.w X.K X.mg X.base C m ps k sp)(d:cV k X.A)(g:PE X o ta)
  (h:eval (.Call (.Attribute o m J4) [] [] pos) X.env=(do
   let a <- eval o X.env
   mY J4.atName
   let(f,first) <- i7 [a] (mV a m pl)
   l9 pos f first (backTo pos (aq [] X.env)) (iY pos (iX [] X.env))):=by rfl) :
  PE X (.Call (.Attribute o m J4) [] [] pos) (fZ C m sp [] E0 ta cv):=by
 obtain⟨f,l,F,c,i,j⟩:=M.ex;exact C0 g c i F d j .nil Ax h
end
def Ht(K:Za)(tl:TE):TI:=fun σ H R=>tl σ H fun x H1=>∃a,x=.ref a/\(((∃xs,aH K H1 a xs)/\R (Fn K a) H1)∨((∃xs,cj K H1 a xs)/\R (GO K a) H1))
theorem Gk{X:Cx}{t l:Expr}{n:TE}(u:PE X l n):PI X t l (Ht X.K n):=by
 intro r s σ H R I h;refine bY (u r s σ H _ I h) fun v d i=>?_;obtain⟨x,j,f,w,y⟩:=i;obtain⟨a,e,q⟩:=y;subst e;cases w;have g:∀b∈[d.heap.objs.size],kJ X r j b:=fun b z=>by
  have e:b=d.heap.objs.size:=by simpa using z
  subst e;exact f.fpOk (az _) (f.hok.fresh (az _))
 rcases q with⟨⟨xs,k⟩,q⟩|⟨⟨xs,k⟩,q⟩
 ·obtain⟨m,A,p,B⟩:=f.list k;refine zU p.isList ?_;exact⟨d.heap.objs.size,[d.heap.objs.size],_,_,j,rfl,f.kept (t':=d.toks) fun b o e=>aF _ e,tV a _,⟨_,bF _ rfl,rfl,rfl⟩,g,q⟩
 ·obtain⟨m,A,p,B⟩:=f.tuple k;refine zT p ?_;exact⟨d.heap.objs.size,[d.heap.objs.size],_,_,j,rfl,f.kept (t':=d.toks) fun b o e=>aF _ e,rD a _,⟨_,bF _ rfl,rfl,rfl⟩,g,q⟩
theorem nR{K:Za}{a:Addr}{xs:List V}{g:TG}{j:TS}{D:eD}{σ:St}{H:Hp}(Pv:Nat->St->Hp->Prop)(l:Pv 0 σ H)(n:∀i σ H,i<=xs.length->Pv i σ H->aH K H a xs)
  (o:∀i x σ H p,xs[i]?=some x->Pv i σ H->H p=none->g (.ref p) σ (upd H p (.tup [.int i,x])) fun σ2 h=>j { D with nx:=Pv (i+1),ct:=Pv (i+1),bk:=D.nx } σ2 h) (r:∀σ H,Pv xs.length σ H->D.nx σ H) :
  ∃W:Nat->Nat->St->Hp->Prop,(∃m,W 0 m σ H)/\∀i m σ H,W i m σ H ->
   ((HE K a).stop i H/\D.nx σ H)∨((HE K a).go i H/\∃N:St->Hp->Prop,(∀σ' d,N σ' d->∃k,k<m/\W (i+1) k σ' d)/\∀x d,(HE K a).yld i H x d->g x σ d fun σ2 h=>j { D with nx:=N,ct:=N,bk:=D.nx } σ2 h):=by
 refine⟨fun i m σ H=>m=xs.length-i/\i<=xs.length/\Pv i σ H,⟨xs.length,by simp,dY _,l⟩,?_⟩;rintro i m σ H ⟨rfl,hi,p⟩;have q:=n i σ H hi p;by_cases f:i<xs.length
 ·refine .inr ⟨⟨xs,xs[i],q,by simp[f]⟩,Pv (i+1),fun σ' d s=>⟨xs.length-(i+1),by omega,rfl,f,s⟩,fun x d y=>?_⟩;obtain⟨t,v,rfl,u,w,rfl⟩:=y;exact o i v σ H t (w xs q) p u
 ·have e:i=xs.length:=by omega
  subst e;exact .inl ⟨⟨xs,q,az _⟩,r σ H p⟩
def Wc(n:Nat)(Pv:Nat->List V->Hp->Prop):Nat->Nat->List V->Hp->Prop:=fun i m vs H=>m=n-i/\i<=n/\Pv i vs H
theorem AC{n i:Nat}{Pv:Nat->List V->Hp->Prop}{a:List V}{H:Hp}(hi:i<n)(p:Pv (i+1) a H):∃d,d<n-i/\Wc n Pv (i+1) d a H:=⟨n-(i+1),by omega,rfl,hi,p⟩
abbrev ij(k:Nat)(fi:List Nat)(σ:St)(J:It)(g:TG)(tc:TT)(te:TE)(H1:Hp)(l:Addr)(Q:Hp->Prop):Prop :=
 ∃W:Nat->Nat->List V->Hp->Prop,(∃m,W 0 m [] (upd H1 l (.lst [])))/\∀i m vs H2,W i m vs H2->H2 l=some (.lst vs) /\
  ((J.stop i H2/\Q H2)∨(J.go i H2/\∀x H3,J.yld i H2 x H3->g x (dX k fi σ) H3 fun σ2 H4=>tc σ2 H4 fun b H5 =>
   if b=true then te σ2 H5 fun v H6=>H6 l=some (.lst vs)/\vs.length<aj/\∃m',m'<m/\W (i+1) m' (vs++[v]) (upd H6 l (.lst (vs++[v])))else ∃m',m'<m/\W (i+1) m' vs H5))
theorem nU{k:Nat}{q:List Nat}{J:It}{g:TG}{r:TT}{s:TE}{σ:St}{t:Hp}{Q:Hp->Prop}{l:Addr}(n:Nat)(Pv:Nat->List V->Hp->Prop)(z:Pv 0 [] (upd t l (.lst [])))
  (A:∀i a H,i<=n->Pv i a H->H l=some (.lst a)) (j:∀i a H,i<n->Pv i a H->J.go i H) (o:∀a H,Pv n a H->J.stop n H/\Q H)
  (B:∀i a H x h,i<n->Pv i a H->J.yld i H x h->g x (dX k q σ) h fun σ2 C=>r σ2 C fun b u =>
   if b=true then s σ2 u fun v w=>w l=some (.lst a)/\a.length<aj/\∃d,d<n-i/\Wc n Pv (i+1) d (a++[v]) (upd w l (.lst (a++[v])))else ∃d,d<n-i/\Wc n Pv (i+1) d a u) :
  ij k q σ J g r s t l Q:=by
 refine⟨Wc n Pv,⟨n,by simp[Wc],dY _,z⟩,?_⟩;rintro i m a H ⟨rfl,hi,p⟩;refine⟨A i a H hi p,?_⟩;by_cases f:i<n
 ·exact .inr ⟨j i a H f p,fun x h y=>B i a H x h f p y⟩
 ·have e:i=n:=by omega
  subst e;exact .inl (o a H p)
section
variable{K:Za}{k:Nat}{fi:List Nat}{g:TG}{tc:TT}{te:TE}{σ:St}{H1:Hp}{Q:Hp->Prop}{l:Addr}
theorem gX{a:Addr}{xs:List V}(Pv:Nat->List V->Hp->Prop)(m:Pv 0 [] (upd H1 l (.lst [])))
  (f:∀i d H,i<=xs.length->Pv i d H->H l=some (.lst d)/\aH K H a xs) (n:∀d H,Pv xs.length d H->Q H)
  (o:∀i d H x,xs[i]?=some x->i<xs.length->Pv i d H->g x (dX k fi σ) H fun σ2 q=>tc σ2 q fun b h =>
   if b=true then te σ2 h fun v j=>j l=some (.lst d)/\d.length<aj/\∃e,e<xs.length-i/\Wc xs.length Pv (i+1) e (d++[v]) (upd j l (.lst (d++[v])))else ∃e,e<xs.length-i/\Wc xs.length Pv (i+1) e d h) :
  ij k fi σ (Fn K a) g tc te H1 l Q:=by
 refine nU xs.length Pv m (fun i d H hi p=>(f i d H hi p).1) (fun i d H hi p=>⟨xs,xs[i],(f i d H (dB hi) p).2,by simp[hi]⟩) (fun d H p=>⟨⟨xs,(f _ d H (az _) p).2,az _⟩,n d H p⟩) fun i d H x r hi p y=>?_;obtain⟨rfl,y⟩:=y;exact o i d _ x (y xs (f i d _ (dB hi) p).2) hi p
theorem DI{a:Addr}{xs:List V}(Pv:Nat->List V->Hp->Prop)(m:Pv 0 [] (upd H1 l (.lst [])))
  (f:∀i d H,i<=xs.length->Pv i d H->H l=some (.lst d)/\cj K H a xs) (n:∀d H,Pv xs.length d H->Q H)
  (o:∀i d H x,xs[i]?=some x->i<xs.length->Pv i d H->g x (dX k fi σ) H fun σ2 q=>tc σ2 q fun b h =>
   if b=true then te σ2 h fun v j=>j l=some (.lst d)/\d.length<aj/\∃e,e<xs.length-i/\Wc xs.length Pv (i+1) e (d++[v]) (upd j l (.lst (d++[v])))else ∃e,e<xs.length-i/\Wc xs.length Pv (i+1) e d h) :
  ij k fi σ (GO K a) g tc te H1 l Q:=by
 refine nU xs.length Pv m (fun i d H hi p=>(f i d H hi p).1) (fun i d H hi p=>⟨xs,xs[i],(f i d H (dB hi) p).2,by simp[hi]⟩) (fun d H p=>⟨⟨xs,(f _ d H (az _) p).2,az _⟩,n d H p⟩) fun i d H x r hi p y=>?_;obtain⟨rfl,y⟩:=y;exact o i d _ x (y xs (f i d _ (dB hi) p).2) hi p
theorem sv{lo:Int}{n:Nat}(Pv:Nat->List V->Hp->Prop)(h:Pv 0 [] (upd H1 l (.lst [])))
  (j:∀i a H,i<=n->Pv i a H->H l=some (.lst a)) (m:∀a H,Pv n a H->Q H)
  (o:∀i a H,i<n->Pv i a H->g (.int (lo+i)) (dX k fi σ) H fun σ2 q=>tc σ2 q fun b e =>
   if b=true then te σ2 e fun v f=>f l=some (.lst a)/\a.length<aj/\∃d,d<n-i/\Wc n Pv (i+1) d (a++[v]) (upd f l (.lst (a++[v])))else ∃d,d<n-i/\Wc n Pv (i+1) d a e) :
  ij k fi σ (GP lo n) g tc te H1 l Q:=by
 refine nU n Pv h j (fun i a H hi p=>hi) (fun a H p=>⟨az _,m a H p⟩) fun i a H x r hi p y=>?_;obtain⟨rfl,rfl⟩:=y;exact o i a _ hi p
theorem DJ{x:Str}(Pv:Nat->List V->Hp->Prop)(h:Pv 0 [] (upd H1 l (.lst [])))
  (j:∀i a H,i<=x.cps.size->Pv i a H->H l=some (.lst a)) (m:∀a H,Pv x.cps.size a H->Q H)
  (n:∀i a H c,x.cps[i]?=some c->i<x.cps.size->Pv i a H->g (.str ⟨#[c]⟩) (dX k fi σ) H fun σ2 o=>tc σ2 o fun b e =>
   if b=true then te σ2 e fun v f=>f l=some (.lst a)/\a.length<aj/\∃d,d<x.cps.size-i/\Wc x.cps.size Pv (i+1) d (a++[v]) (upd f l (.lst (a++[v])))else ∃d,d<x.cps.size-i/\Wc x.cps.size Pv (i+1) d a e) :
  ij k fi σ (HY x) g tc te H1 l Q:=by
 refine nU x.cps.size Pv h j (fun i a H hi p=>hi) (fun a H p=>⟨az _,m a H p⟩) fun i a H y s hi p q=>?_;obtain⟨rfl,c,r,rfl⟩:=q;exact n i a _ c r hi p
end
theorem gN{j:Nat}{x:V}{σ:St}{H:Hp}{Q:St->Hp->Prop}(h:Q (σ.set j (some x)) H):cT j x σ H Q:=h
theorem xY{σ:St}{H:Hp}{A B:Hp->Prop}(h:A H):oR σ H (fun b a=>if b=true then A a else B a):=by
 show(if(true:Bool)=true then A H else B H)
 exact h
inductive HA{T0 T1:Type}(P:T0->T1->Prop):Prop
 |mk (x0:T0) (x1:T1):P x0 x1->HA P
inductive GZ{T0 T1 T2:Type}(P:T0->T1->T2->Prop):Prop
 |mk (x0:T0) (x1:T1) (x2:T2):P x0 x1 x2->GZ P
inductive NE4{T0 T1 T2 T3:Type}(P:T0->T1->T2->T3->Prop):Prop
 |mk (x0:T0) (x1:T1) (x2:T2) (x3:T3):P x0 x1 x2 x3->NE4 P
inductive NA4(p0 p1 p2 p3:Prop):Prop
 |mk:p0->p1->p2->p3->NA4 p0 p1 p2 p3
inductive G0(p0 p1 p2 p3 p4:Prop):Prop
 |mk:p0->p1->p2->p3->p4->G0 p0 p1 p2 p3 p4
inductive HB(p0 p1 p2 p3 p4 p5:Prop):Prop
 |mk:p0->p1->p2->p3->p4->p5->HB p0 p1 p2 p3 p4 p5
theorem Obj.mapF{o:Obj}{a:Array Value}(e:o.data=.fields a)(f:Array Value->Array Value):o.mapFields f={ o with data:=.fields (f a) }:=by
 obtain⟨c,d,g,h⟩:=o;cases e
 rfl
structure GQ(fs:Ze)(e:Addr)(T:Option Addr)(h h':Heap):Prop where
 keep:∀b o,h.get? b=some o->b≠e->some b≠T->b∉fs->h'.get? b=some o
 slot:∀b o,h.get? b=some o->b≠e->some b≠T->b∈fs->∃sl,h'.get? b=some { o with slots:=sl }
 there:∀b o,h.get? b=some o->∃o',h'.get? b=some o'
def Trc(n:Nat)(h:Heap)(e:Addr)(vs:Array Value)(T:Option Addr):Prop :=
 (vs[1]?=some .none/\T=none)∨∃t oT ts,T=some t/\vs[1]?=some (.ref t)/\n<=t/\t≠e/\h.get? t=some oT/\oT.data=.fields ts/\ts[3]?=some .none
def fP(a C:Addr)(od:Option Addr):Heap->Prop:=fun h=>∃vs,h.get? a=some { cls:=.ref C,dict:=od,data:=.fields vs }/\1<vs.size
def mP(a C:Addr)(od:Option Addr):Heap->Prop:=fun h=>∃vs,h.get? a=some { cls:=.ref C,dict:=od,data:=.fields vs }/\vs[1]?=some .none
theorem uw{P:aU}{w:World}{K:Za}{H:Hp}{h:Heap}{a C:Addr}{f:Option Addr}{d:Array Value}(e:h.get? a=some { cls:=.ref C,dict:=f,data:=.fields d })(z:1<d.size):aZ P w K H h a (.ext (fP a C f)) :=
 ⟨⟨d,e,z⟩,⟨_,e⟩,fun _ _ ⟨g,q,y⟩ k=>⟨g,k _ q,y⟩⟩
theorem ux{P:aU}{w:World}{K:Za}{H:Hp}{h:Heap}{a C:Addr}{f:Option Addr}{d:Array Value}(e:h.get? a=some { cls:=.ref C,dict:=f,data:=.fields d })(z:d[1]?=some .none):aZ P w K H h a (.ext (mP a C f)) :=
 ⟨⟨d,e,z⟩,⟨_,e⟩,fun _ _ ⟨g,q,y⟩ k=>⟨g,k _ q,y⟩⟩
structure kK(n:Nat)(h:Heap)(H:Hp)(a C:Addr)(od:Option Addr):Prop where
 trk:H a=some (.ext (fP a C od))
 new:n<=a
 tr:∃vs T,h.get? a=some { cls:=.ref C,dict:=od,data:=.fields vs }/\1<vs.size/\Trc n h a vs T/\∀t,T=some t->H t=none
theorem kK.mono{n d:Nat}{h:Heap}{H:Hp}{a C:Addr}{g:Option Addr}(x:kK n h H a C g)(l:d<=n):kK d h H a C g :=
 ⟨x.trk,bN l x.new,let⟨i,T,e,z,j,f⟩:=x.tr;⟨i,T,e,z,by
  rcases j with q|⟨t,k,m,o,p,r,s⟩
  ·exact .inl q
  ·exact .inr ⟨t,k,m,o,p,bN l r,s⟩,f⟩⟩
theorem Di{P:aU}{w:World}{K:Za}{H:Hp}{h e:Heap}{fs:Ze}{a C:Addr}{i T:Option Addr}{d:Array Value}(ok:jp P w K H h)(j:H a=some (.ext (fP a C i)))(m:∀t,T=some t->H t=none)(f:∀b∈fs,H b=none)
  (n:GQ fs a T h e) (p:e.get? a=some { cls:=.ref C,dict:=i,data:=.fields d }) (z:1<d.size):jp P w K H e:=fun b u q=>by
 by_cases k:b=a
 ·subst k;rw[j]at q;cases q;exact uw p z
 ·have l:∀c o v,H c=some v->c≠a->h.get? c=some o->e.get? c=some o:=fun c o v hc s g =>
   n.keep c o g s (fun z=>by rw[m c z.symm]at hc;cases hc) fun z=>by rw[f c z]at hc;cases hc
  refine(ok b u q).stay (fun c o hc g=>?_) (fun _ r=>r) fun _ _ r=>r;rcases hc with rfl|hc
  ·exact l c o u q k g
  ·exact l c o _ hc (fun z=>by rw[z,j]at hc;cases hc) g
structure nY(X:Cx)(J2:Zd)(n:Nat):Prop where
 s0:X.s₀.heap.objs.size<=n
 loc:X.env.locals<n
 cell:∀x c,X.env.cells.lookup x=some c->c<n
 pin:∀p∈X.pn++J2,p.1<n
theorem Inv.young{X:Cx}{a:Zd}{σ:St}{H:Hp}{s:Shared}(I:Inv X a σ H s):nY X a s.heap.objs.size :=
 ⟨I.sz,I.lt,fun x c e=>let⟨_,_,q,_⟩:=I.cell x c e;ar q,fun p d=>ar (I.pin p d).1⟩
section
variable{X:Cx}{J2:Zd}{σ:St}{H:Hp}{s:Shared}{n:Nat}{a C:Addr}{od:Option Addr}
def BY(P:aU)(w:World)(K:Za):BX:=fun outer H s E e s'=>∃a C od H',e=.ref a/\s'.os=s.os/\lK s'.gens/\Un (sR outer) [] H H' s.heap s'.heap/\jp P w K H' s'.heap/\kK s.heap.objs.size s'.heap H' a C od/\E (.ref C) (some a) H'
end
abbrev fI:List Value:=[.type "ValueError",.type "Exception",.type "BaseException",.type "object"]
inductive eB:List Value->Prop
 |base:eB fI
 |own {a:Addr}{r:Zf}:eB r->eB (.ref a::r)
theorem eB.has{l:Zf}(x:eB l){n:String}{b:Bool}(e:fI.contains (.type n)=b):l.contains (.type n)=b:=by
 induction x with
 |base=>exact e
 |own _ a=>rw[eR,a];rfl
section
variable{prog:aU}{w:World}{A:Around}{E:Zc}{h:Heap}{g:Array zY}{d:Drawn}{t:Nat}{os:OsState}
variable{nm q:Str}{C N:Addr}{bs bm:Zf}{hdct:Bool}{sn:Zb}{sub:Zf}{ab:Bool}{col:Option Bool}{dd:Option Addr}{k0 k1 k2 k3 k5:Option Value}
theorem Ea{M:Model}(e:eB bm){f:Zf}{Q:Unit->Shared->Prop}(a:h.get? C=some (eQ nm q C N bs bm hdct sn sub ab col dd k0 k1 k2 k3 k5 "ValueError.__new__"))
  (i:Q () ⟨h,g,d,t,os⟩):wpAny M A (uT "ValueError.__new__" ⟨.ref C::f,[]⟩) Q E ⟨h,g,d,t,os⟩:=by
 have G:=PySem.F.excBase_ValueError;have j:(Value.ref C::bm).contains (.type "ValueError")=true:=by rw[eR,e.has (b:=true) (by decide +kernel)];rfl
 have k:=G.noStar;simp only[uT,G.newKind,G.newSplit,G.newRow]
 repeat (first|refine js a ?_|(refine qQ a ?_;rw[j])|refine wpAny_staticBase_exc a ?_|refine wpAny_madeBy_exc a ?_|simp only[bne_self_eq_false,g_,if_false] | wp_step)
 exact i
theorem G6{R:Result->Shared->Prop}(a:eB bm){e:Zf}(f:h.get? C=some (eQ nm q C N bs bm hdct sn sub ab col dd k0 k1 k2 k3 k5 "ValueError.__new__"))(m:e.length<=aj)
  (i:R (.ok (.ret (.ref (h.objs.size+1)))) ⟨(h.push { cls:=.type "tuple",data:=.seq e.toArray }).push { cls:=.ref C,data:=.fields #[.ref h.objs.size,.none,.none,.none,.bool false,.none] },g,d,t,os⟩) :
  zzl87 (model prog w) A (.builtin "ValueError.__new__" ⟨.ref C::e,[]⟩) R ⟨h,g,d,t,os⟩:=by
 have G:=PySem.F.excBase_ValueError;have n:=G.ends;have j:(Value.ref C::bm).contains (.type "ValueError")=true:=by rw[eR,a.has (b:=true) (by decide +kernel)];rfl
 have k:(Value.ref C::bm).contains (.type "AttributeError")=false:=by rw[eR,a.has (b:=false) (by decide +kernel)];rfl
 have l:(Value.ref C::bm).contains (.type "NameError")=false:=by rw[eR,a.has (b:=false) (by decide +kernel)];rfl
 refine codeAny_builtinAt G.entry ?_;unfold aS.«BaseException.__new__»;refine PySem.wpAt_bind ?_;show PySem.wpAt _ _ _ (stack >>= _) _ _ _;refine PySem.wpAt_bind (PySem.wpAt_stack fun p below=>PySem.wpAt_of_wpAny ?_)
 wp_walk
 refine PySem.wpAt_of_wpAny ?_;rw[G.owner]
 repeat (first|with_reducible refine wpAny_madeHere_exc G.canon f ?_|with_reducible refine js f ?_|(with_reducible refine qQ f ?_;first|rw[j] | rw[k] | rw[l])|wp_step)
 show R _ _;rw[gD];exact i
end
structure v9(K:Za)(C:Addr):Prop where
 obj:∃nm q N bs bm sn sub ab col dd k0 k1 k2 k3 k5,K.lookup C=some (eQ nm q C N bs bm true sn sub ab col dd k0 k1 k2 k3 k5 "ValueError.__new__")/\eB bm
 sa:aR K (.ref C) "__setattr__"=some (some (.builtin "object.__setattr__"))
 ga:aR K (.ref C) "__getattribute__"=some (some (.builtin "BaseException.__getattribute__"))
 gx:aR K (.ref C) "__getattr__"=some none
theorem v9.cd{K:Za}{C:Addr}(c:v9 K C):∃cd,PySem.W.clsIn K C=some cd/\eB cd.mro/\cd.hasDict=true:=by
 obtain⟨d,q,N,bs,f,g,sub,h,a,i,j,k,l,m,n,e,v⟩:=c.obj;exact⟨_,by unfold PySem.W.clsIn;rw[e],.own v,rfl⟩
theorem eB.ne{l:Zf}(x:eB l):l.isEmpty=false:=by cases x<;>rfl
section
variable{prog:aU}{w:World}{A:Around}{E:Zc}{s:Shared}{K:Za}{x C:Addr}{od:Option Addr}{vs:Array Value}{name:Str}{v:Value}
open PySem.W
theorem G5{M:Model}{h:Heap}{cd:ClassData}(X:K.In h)(d:clsIn K C=some cd)(a:eB cd.mro){n:String}(e:fI.contains (.type n)=true):Looks M h (isSubtype (.ref C) (.type n)) true :=
 looks_mroIn X (by unfold mroIn;rw[d,Option.bind_some,if_neg (by rw[a.ne];decide),a.has e])
theorem B7{M:Model}{h:Heap}(hx:h.get? x=some { cls:=.ref C,dict:=od,data:=.fields vs }):Looks M h (typeOf (.ref x)) (.ref C):=(Looks.ld hx).andThen .now
theorem Ec{f:Zf}{Q:Zc}(X:K.In s.heap)(c:v9 K C)(hx:s.heap.get? x=some { cls:=.ref C,dict:=od,data:=.fields vs })(T:f.length<=aj)(u:0<vs.size)
  (h:∀l,(∀b o,b≠x->s.heap.get? b=some o->l.get? b=some o)->l.get? x=some { cls:=.ref C,dict:=od,data:=.fields (vs.setIfInBounds 0 (.ref s.heap.objs.size)) }->Q .none { s with heap:=l }) :
  wpAny (model prog w) A (call (.builtin "ValueError.__init__") (.ref x::f)) Q E s:=by
 obtain⟨U,q,N,bs,B,Y,sub,ab,D,dd,k0,k1,k2,k3,k5,e,H⟩:=c.obj;have G:=PySem.F.excBase_ValueError;have m:=X _ _ e;have I:(Value.ref C::B).contains (.type "ValueError")=true:=by rw[eR,H.has (b:=true) (by decide +kernel)];rfl
 have c2:=G.noStar;obtain⟨i,g,d,t,os⟩:=s;dsimp only at hx m;refine ju (codeAny_call_builtin G.init.plain G.initEntry ?_);have J:∀(p:Unit->Shared->Prop),p () ⟨i,g,d,t,os⟩->wpAny (model prog w) A.in1 (uT "ValueError.__init__" ⟨.ref x::f,[]⟩) p (fun e z=>match (Except.error e:Result)with | .ok (.ret v)=>Q v z | .ok _=>False | .error e=>E e z) ⟨i,g,d,t,os⟩:=fun p L=>by
  simp only[uT,G.initKind,G.initSplit,G.initRow]
  repeat (first|with_reducible refine js hx ?_|with_reducible refine js m ?_|(with_reducible refine qQ m ?_;rw[I])|wp_step)
  refine qZ ?_;rw[show ∀(a b:String) (n:Nat),Bind.check ⟨.positional,"*","ValueError",.self,[⟨"args",.varPos,false⟩]⟩ a b n (List.map (fun y=>y.fst) ({ pos:=Value.ref x::f }:Args).kw)=pure ()from fun a b n=>check_star_args _ _ _ _ _ _];exact ak L
 refine J _ ?_;unfold aS.«BaseException.__init__»;have j:(i.push { cls:=.type "tuple",data:=.seq f.toArray }).get? x=some { cls:=.ref C,dict:=od,data:=.fields vs }:=aF _ hx;obtain⟨r,M⟩:∃r,vs[0]?=some r:=⟨vs[0],by simp[u]⟩
 wp_walk
 rw[M];have k:Q .none ⟨(i.push { cls:=.type "tuple",data:=.seq f.toArray }).update x (fC (·.setIfInBounds 0 (.ref i.objs.size))),g,d,t,os⟩:=by
  refine h _ (fun b o O e=>?_) ?_
  ·rw[fG _ _ (br O)];exact aF _ e
  ·rw[eU _ j rfl];rfl
 refine ak (ac (iS j rfl u ?_));cases r<;>first|exact oz (ak k)|exact ak (ak k)
theorem FZ{h:Heap}{d:Addr}{a:Obj}(hx:h.get? x=some { cls:=.ref C,dict:=some d,data:=.fields vs })(e:h.get? d=some a):InstAt h x { cls:=.ref C,dict:=some d,data:=.fields vs } C (some a):=⟨hx,rfl,rfl,e⟩
theorem D9{h:Heap}(hx:h.get? x=some { cls:=.ref C,dict:=none,data:=.fields vs }):InstAt h x { cls:=.ref C,dict:=none,data:=.fields vs } C none:=⟨hx,rfl,rfl,fy⟩
end
def FR(d:Addr)(fs:List (Str×V)):Heap->Prop:=fun h=>∃mA,h.Ns1 d mA/\∀f,jI (fs.lookup f) (mA f)
structure Hx(K:Za)(T:Addr):Prop where
 rd:PySem.W.readsIn K T (.type "type")=true
 fi:PySem.W.findCls K (.ref T) (.type "type") "__init__"=some (.val (.builtin "ValueError.__init__"))
 ga:zP K (.ref T) "__getattribute__"=some (some (.builtin "type.__getattribute__"))
section
variable{X:Cx}{J2:Zd}{σ:St}{H:Hp}{s:Shared}{a C:Addr}{od:Option Addr}
theorem Inv.exc(I:Inv X J2 σ H s)(e:H a=some (.ext (fP a C od))):∃d,s.heap.get? a=some { cls:=.ref C,dict:=od,data:=.fields d }/\1<d.size:=(I.hok a _ e).1
theorem Inv.excN(I:Inv X J2 σ H s)(e:H a=some (.ext (mP a C od))):∃d,s.heap.get? a=some { cls:=.ref C,dict:=od,data:=.fields d }/\d[1]?=some .none:=(I.hok a _ e).1
end
section
variable{M:Model}{A:Around}{E:Zc}{s:Shared}{env:Env}{nm q:Str}{C N a:Addr}{bs bm:Zf}{hdct:Bool}{sn:Zb}{sub:Zf}{ab:Bool}{col:Option Bool}{dd od:Option Addr}{k0 k1 k2 k3 k5:Option Value}{newId:String}{vs:Array Value}
theorem D8{x:Sem Value}{Q:Flow->Shared->Prop}(j:eB bm)(k:A.handled=none)
  (h:wpAny M A x (fun v e=>∃a od vs,v=.ref a/\e.heap.get? C=some (eQ nm q C N bs bm hdct sn sub ab col dd k0 k1 k2 k3 k5 newId)/\e.heap.get? a=some { cls:=.ref C,dict:=od,data:=.fields vs }/\vs[1]?=some .none/\E (.ref a) e) E s) :
  wpAny M A (raiseStmt env (some x) none) Q E s:=by
 have l:(Value.ref C::bm).contains (.type "BaseException")=true:=by rw[eR,j.has (b:=true) (by decide +kernel)];rfl
 unfold raiseStmt;refine ac (bV h (fun v e m=>?_) fun _ _ y=>y);obtain⟨a,od,vs,rfl,f,i,n,o⟩:=m;obtain⟨p,g,d,tk,os⟩:=e
 repeat (first|with_reducible refine be i rfl n ?_|with_reducible refine js i ?_|with_reducible refine js f ?_|(with_reducible refine qQ f ?_;rw[l])|wp_step)
 exact wpAny_raiseNew_none k o
end
abbrev Cx.hnd(X:Cx)(v:Value):Cx:={ X with A:=X.A.mark (some v),calm:=false,xe:=fun _ _=>False }
section
variable{X:Cx}{J2:Zd}{σ:St}{H:Hp}{s:Shared}{n:Nat}{a C:Addr}{od:Option Addr}{v:Value}
theorem Inv.hnd(I:Inv X J2 σ H s)(v:Value):Inv (X.hnd v) J2 σ H s :=
 ⟨⟨I.ok.mod,I.ok.kind,I.ok.glob,I.ok.blt,I.ok.above,I.ok.inj,I.ok.has,I.ok.cab,(fun z=>nomatch z),I.ok.frames,I.ok.stk,I.ok.exf,I.ok.bs,I.ok.bsz,I.ok.noex,I.ok.exfs,I.ok.funs,I.ok.frf⟩,I.os,I.bare,I.base,I.loc,I.cell,I.free,I.freeC,I.pin,I.hok,I.len⟩
theorem Inv.unhnd(d:Inv (X.hnd v) J2 σ H s)(ok:X.Ok):Inv X J2 σ H s:=⟨ok,d.os,d.bare,d.base,d.loc,d.cell,d.free,d.freeC,d.pin,d.hok,d.len⟩
theorem z9{M:Model}{A:Around}{Q:Unit->Shared->Prop}{E:Zc}(I:Inv X J2 σ H s)(y:nY X J2 n)(k:kK n s.heap H a C od)(h:∀m,Inv X J2 σ H m->kK n m.heap H a C od->Q () m):
  wpAny M A (qO (.ref a) none) Q E s:=by
 obtain⟨D,T,e,z,G,u⟩:=k.tr;unfold qO;rcases G with⟨l,rfl⟩|⟨t,N,O,rfl,l,i,j,w,d,B⟩
 ·refine ac (be e rfl l ?_);rw[if_neg (by decide)];exact ak (h s I k)
 ·refine ac (be e rfl l ?_);rw[if_pos (show(Value.ref t != Value.none)=true from by simp)];refine iS w d (iP.mp B).1 ?_;have kp:∀b o,b≠t->s.heap.get? b=some o->(s.heap.update t (fC (·.setIfInBounds 3 ((none:Option Addr).elim Value.none fun f=>rawInt f)))).get? b=some o:=fun b o J g=>by
   rw[fG _ _ (br J)];exact g
  have r:=(iP.mp B).1;refine h _ (I.turned (t':=s.toks) (it:=t) kp (u t rfl) (fun q=>absurd i (iO (q▸y.loc))) (.inr (bN y.s0 i)) (fun x c g q=>absurd i (iO (q▸y.cell x c g))) (fun p L q=>absurd i (iO (q▸y.pin p L))))
   ⟨k.trk,k.new,D,some t,kp a _ (br j) e,z,.inr ⟨t,_,_,rfl,l,i,j,eU _ w (oB (iR d _)),iR d _,by simp[r]⟩,u⟩
theorem qy{M:Model}{A:Around}{E:Zc}{i:Nat}{x:Str}{t:Pos}{Q:Unit->Shared->Prop}(I:Inv X J2 σ H s)(O:X.N.Nodup)(hi:X.N[i]?=some x)(hx:X.env.scope.names.lookup x=some .local)
  (h:∀G,Inv X J2 (σ.set i none) H G->Q () G):wpAny M A (do bindName X.env x .none;unbindBehindTheSuite X.env x t) Q E s:=by
 obtain⟨m,J,T⟩:=id I.loc;have l:(X.env.scope.kind==.class || (X.env.scope.kind==.module && X.env.locals != X.env.globals))=false:=by rw[I.ok.kind];rfl
 have hiσ:i<σ.length:=by rw[I.len];exact(gE.mp hi).1
 have cne:=I.cne;refine wpAny_nameGoes_keeps hx J l fun U v u f=>?_;obtain⟨oL,_,_,Y,_⟩:=id J;have tracked:jp X.prog X.w X.K H U:=fun b ob e=>by
  refine(I.hok b ob e).stay (fun c L hc q=>(f.2 c ?_).trans q) (fun _ q=>q) fun _ _ q=>q;rintro rfl;rcases hc with rfl|hc
  ·rw[I.free]at e;cases e
  ·rw[I.free]at hc;cases hc
 refine h _ ⟨I.ok,I.os,I.bare,⟨fun b o e n B hx=>?_,fun b o e n B hx=>?_,I.base.free,fun b o e hx=>?_,I.base.tups,I.base.frzs,I.base.tbls⟩,⟨_,u,fun j y v' g r e3=>?_⟩,fun y c e=>?_,I.free,I.freeC,fun p hp=>?_,tracked,by simpa using I.len⟩
 ·exact(f.2 b (bB (cb (ar e) I.ok.above))).trans (I.base.keep b o e n B hx)
 ·obtain⟨sl,g⟩:=I.base.slot b o e n B hx;exact⟨sl,(f.2 b (bB (cb (ar e) I.ok.above))).trans g⟩
 ·obtain⟨o',g⟩:=I.base.there b o e hx;exact⟨o',(f.2 b (bB (cb (ar e) I.ok.above))).trans g⟩
 ·by_cases D:j=i
  ·subst D;rw[List.getElem?_set_self hiσ]at r;cases r
  ·rw[zX (br D)]at r;obtain⟨u',r',q⟩:=T j y v' g r e3;refine⟨u',r',?_⟩;rcases q with⟨k,e⟩|⟨k,c,e,z⟩
   ·refine .inl ⟨k,?_⟩;have:y≠x:=fun e=>D (r8 O g (e▸hi));simp[this,e]
   ·exact .inr ⟨k,c,e,z.sameBut f (cne y c e)⟩
 ·obtain⟨L,z⟩:=I.cell y c e;exact⟨L,z.sameBut f (cne y c e)⟩
 ·obtain⟨e,n,ne,nf,d⟩:=I.pin p hp;exact⟨(f.2 p.1 ne).trans e,n,ne,nf,d⟩
def XE(X:Cx)(J2:Zd)(σ:St)(W:XK)(e:Value)(s':Shared):Prop:=∃n a C od H',e=.ref a/\nY X J2 n/\Inv X J2 σ H' s'/\kK n s'.heap H' a C od/\W (.ref C) (some a) H'
def XS(X:Cx)(J2:Zd)(W:St->XK)(e:Value)(s':Shared):Prop:=∃n a C od σ' H',e=.ref a/\nY X J2 n/\Inv X J2 σ' H' s'/\kK n s'.heap H' a C od/\W σ' (.ref C) (some a) H'
def B2(X:Cx)(e:Expr)(t:XK->TE):Prop:=∀(J2:Zd) (s:Shared) (σ:St) (H:Hp) (Q:VK) (W:XK),Inv X J2 σ H s->t W σ H Q->wpAny (model X.prog X.w) X.A (eval e X.env) (EP X J2 σ Q) (XE X J2 σ W) s
def PH(X:Cx)(hs:List uS)(t:eD->St->XK):Prop:=∀(J2:Zd) (n:Nat) (s:Shared) (σ:St) (H:Hp) (D:eD) (a C:Addr) (od:Option Addr),Inv X J2 σ H s->nY X J2 n->kK n s.heap H a C od->t D σ (.ref C) (some a) H ->
 wpAny (model X.prog X.w) X.A (handleBy (.ref a) X.env hs) (SP X J2 D) X.xe s
def Ek(tb:(St->XK)->TS)(th:eD->St->XK):TS:=fun D σ H=>tb (th D) D σ H
def t_(te:XK->TE)(i:Nat):(St->XK)->TS:=fun W D σ H=>te (W σ) σ H fun v H1=>D.nx (σ.set i (some v)) H1
def ym(te:XK->TE):(St->XK)->TS:=fun W D σ H=>te (W σ) σ H fun _ H1=>D.nx σ H1
def Gd(tc:TT)(ta tb:(St->XK)->TS):(St->XK)->TS:=fun W=>dw tc (ta W) (tb W)
def jc(t:TS):(St->XK)->TS:=fun _=>t
def GY(X:Cx)(b:Stmt)(t:(St->XK)->TS):Prop:=∀(J2:Zd) (s:Shared) (σ:St) (H:Hp) (D:eD) (W:St->XK),Inv X J2 σ H s->t W D σ H->wpAny (model X.prog X.w) X.A (exec b X.env) (SP X J2 D) (XS X J2 W) s
theorem XE.xs{e:Value}{W:St->XK}(h:XE X J2 σ (W σ) e s):XS X J2 W e s:=let⟨n,a,C,od,d,f,y,I,g,q⟩:=h;⟨n,a,C,od,σ,d,f,y,I,g,q⟩
theorem vH{e:Expr}{g:XK->TE}{x:Str}{i:Nat}{j d:Pos}(k:X.N.Nodup)(hi:X.N[i]?=some x)(hx:Loc X.env.scope x)(l:B2 X e g)
  (m:jX e (some (.Name x j)) d.line X.env=pure false:=by rfl) (hf:X.fn x=true∨X.env.scope.names.lookup x=some .local:=by first|exact .inl rfl|exact .inr rfl|assumption) :
  GY X (.Assign [.Name x j] e d) (t_ g i):=by
 intro J2 s σ H D W I h;refine wpAny_Assign_Name (bV (l J2 s σ H _ (W σ) I h) (fun v u f=>?_) fun _ _ z=>z.xs) m;obtain⟨y,o,p,q,r⟩:=f;exact ni p k hi hx q (fun w t=>⟨_,o,t,r⟩) hf
theorem Aq{e:Expr}{f:XK->TE}{d:Pos}(g:B2 X e f)(i:jX e none d.line X.env=pure false:=by rfl):GY X (.Expr e d) (ym f):=by
 intro J2 s σ H D W I h;exact wpAny_Expr_any (bV (g J2 s σ H _ (W σ) I h) (fun v m ⟨x,j,k,o,l⟩=>⟨σ,j,k,l⟩) fun _ _ z=>z.xs) I.quiet i
section
variable{f:Addr}{k:Nat}{fd:eX}{ps:Zb}{sp:Sp}{x:Str}{p pos:Pos}{e:Expr}{es:List Expr}{t:TA}
theorem XE.of{W:XK}{i:Value}{j:Hp}{l m:Shared}(o:Inv X J2 σ j l)(h:BY X.prog X.w X.K X.stack j l W i m):XE X J2 σ W i m:=by
 obtain⟨a,C,od,r,u,os,d,un,g,y,q⟩:=h;exact⟨_,a,C,od,r,u,o.young,o.call' (ch:=[]) os un g d (fun b z=>absurd z (by simp)),y,q⟩
theorem CZ(F:ig X.prog X.w X.K X.mg X.base (BY X.prog X.w X.K) k f fd ps sp)(D:cV k X.A)(E:Gl X x)(G:X.mg x=some (.ref f))(J:dh X.K (.ref f)=true)(L:Binds X.K fd ps [])
  (M:PA X.nox (e::es) t) (l:(x==("__debug__":Str))=false:=by decide) (N:aq (e::es) X.env=(false,eval e X.env)::aq es X.env:=by rfl) (m:(backTo pos (aq es X.env)).any (·.1)=false:=by rfl) :
  B2 X (.Call (.Name x p) (e::es) [] pos) (fun W=>rN sp [] W t):=by
 intro J2 s σ H Q W I h;refine j_ (iG I E G ?_ l);refine l_ (h₀:=X.base) I.ok.mod.kin J (bV (M pos J2 s σ H _ (I.wish _) h) (fun i y ⟨O,T,d,r,q⟩=>⟨d.kIn,?_⟩) fun _ _ z=>bx z) N m;have j:=d.unwish;dsimp only at q;rw[cp]at q;have U:(i++[]).length=ps.length:=by rw[cp,<-r.length];exact F.len _ _ _ _ q
 have B:=L y i j.kIn U;rw[cp]at B;refine ju (ma (F.run X.A X.stack y T ⟨i,[]⟩ i O Q W D j.env0 B r q) fun o s' g=>?_);cases o with
 |error ev=>exact XE.of j g
 |ok Y =>
  cases Y with
  |ret u=>exact j.after g
  |next=>exact bx g
  |brk=>exact bx g
  |cont=>exact bx g
theorem CW{C:Addr}(M:Mk X.K C f)(F:ig X.prog X.w X.K X.mg X.base (BY X.prog X.w X.K) k f fd ps sp)(L:cV (k+1) X.A)(N:Gl X x)(O:X.mg x=some (.ref C))(T:Binds X.K fd ps [])
  (U:PA X.nox (e::es) t) (o:(x==("__debug__":Str))=false:=by decide) (he:aq (e::es) X.env=(false,eval e X.env)::aq es X.env:=by rfl) (y:(backTo pos (aq es X.env)).any (·.1)=false:=by rfl) :
  B2 X (.Call (.Name x p) (e::es) [] pos) (fun W=>rJ C sp [] W t):=by
 intro J2 s σ H Q W I h;refine j_ (iG I N O ?_ o);refine l_ (h₀:=X.base) I.ok.mod.kin M.kp (bV (U pos J2 s σ H _ (I.wish _) h) (fun i g ⟨Y,H1,j,r,q⟩=>⟨j.kIn,?_⟩) fun _ _ z=>bx z) he y;have l:=j.unwish;have B:=q (g.heap.objs.size+1) g.heap.objs.size (l.hok.fresh (iW _)) (l.hok.fresh (az _)) (bB (Nat.lt_succ_self _));rw[cp]at B;have m:=Inv.made (C:=C) l;have E:aP (V.ref (g.heap.objs.size+1)::Y) (Value.ref (g.heap.objs.size+1)::i):=.cons rfl r;have hl:((Value.ref (g.heap.objs.size+1)::i)++[]).length=ps.length:=by rw[cp,<-E.length];exact F.len _ _ _ _ B
 have G:=T _ (Value.ref (g.heap.objs.size+1)::i) m.kIn hl;rw[cp]at G;refine ju (xu (f:=f) l.kIn M.makes M.init (beq_iff_eq.mp M.fn) (ma (F.run _ X.stack _ _ ⟨Value.ref (g.heap.objs.size+1)::i,[]⟩ (Value.ref (g.heap.objs.size+1)::i) _ _ W (L.make C i [])
  (m.env0.make C i []) G E B) fun D s' d=>?_))
 cases D with
 |error J=>exact XE.of m d
 |ok fl =>
  cases fl with
  |ret u =>
   obtain⟨v,H',I3,rv,J,q3⟩:=m.after d;subst J;exact⟨rv,⟨V.ref (g.heap.objs.size+1),H',I3,rfl,q3⟩⟩
  |next=>exact bx d
  |brk=>exact bx d
  |cont=>exact bx d
end
section
variable{cn nme:Str}{Dc:Addr}{np hpos:Pos}{b0:Stmt}{suite:List Stmt}{rest:List uS}{th:TS}{tr:eD->St->XK}{i:Nat}
def Ha(K:Za)(Dc:Addr)(i:Nat)(th:TS)(tr:eD->St->XK):eD->St->XK:=fun D σ cls oa H=>∃C a b,cls=.ref C/\oa=some a/\uR K (.ref C) (.ref Dc)=some b /\
 if b=true then th { nx:=fun σ' H'=>D.nx (σ'.set i none) H',rt:=D.rt,bk:=fun σ' H'=>D.bk (σ'.set i none) H',ct:=fun σ' H'=>D.ct (σ'.set i none) H' } (σ.set i (some (.ref a))) H else tr D σ cls oa H
def El:eD->St->XK:=fun _ _ _ _ _=>False
theorem CV:PH X [] El:=fun _ _ _ _ _ _ _ _ _ _ _ _ h=>h.elim
theorem Hk(k:X.N.Nodup)(hi:X.N[i]?=some nme)(hx:X.env.scope.names.lookup nme=some .local)(x:Gl X cn)(A:X.mg cn=some (.ref Dc))(m:∀a:Addr,uE (X.hnd (.ref a)) (b0::suite) th)(o:PH X rest tr)
  (p:(cn==("__debug__":Str))=false:=by decide):PH X (.ExceptHandler (some (.Name cn np)) (some nme) (b0::suite) hpos::rest) (Ha X.K Dc i th tr):=by
 intro J2 n s σ H D a C od I y r ⟨T,U,b,B,E,ex,h⟩;cases B;cases E;obtain⟨Y,g,_⟩:=I.exc r.trk;refine wpAny_handleBy_cons (codeAny_handlers_test ?_) (by intro q;cases q);refine iG (X:=X.hnd (.ref a)) (I.hnd (.ref a)) x A ?_ p;refine(PySem.W.exm_one (M:=model X.prog X.w) I.kIn (B7 g) ex).here ?_;cases b with
 |false=>exact o J2 n s σ H D a C od I y r h
 |true =>
  refine codeAny_handlers_suite_as (z9 I y r fun s1 G J=>?_);refine ni (X:=X) G k hi (.inl hx) (v:=.ref a) (u:=.ref a) rfl (fun L O=>?_) (.inr hx);refine bV (m a J2 L _ H _ (O.hnd (.ref a)) h) (fun f s3 l=>?_) fun _ _ z=>bx z;cases f with
  |next=>obtain⟨σ',d,e,q⟩:=l;exact qy (e.unhnd I.ok) k hi hx fun t j=>⟨_,d,j,q⟩
  |brk=>obtain⟨σ',d,e,q⟩:=l;exact qy (e.unhnd I.ok) k hi hx fun t j=>⟨_,d,j,q⟩
  |cont=>obtain⟨σ',d,e,q⟩:=l;exact qy (e.unhnd I.ok) k hi hx fun t j=>⟨_,d,j,q⟩
  |ret u=>obtain⟨v,σ',d,e,Q,q⟩:=l;exact qy (e.unhnd I.ok) k hi hx fun t j=>⟨v,_,d,j,Q,q⟩
def Ge(K:Za)(Dc:Addr)(th:TS)(tr:eD->St->XK):eD->St->XK:=fun D σ cls oa H=>∃C b,cls=.ref C/\uR K (.ref C) (.ref Dc)=some b/\if b=true then th D σ H else tr D σ cls oa H
theorem Hj(p:Gl X cn)(r:X.mg cn=some (.ref Dc))(k:∀a:Addr,uE (X.hnd (.ref a)) (b0::suite) th)(l:PH X rest tr)
  (m:(cn==("__debug__":Str))=false:=by decide):PH X (.ExceptHandler (some (.Name cn np)) none (b0::suite) hpos::rest) (Ge X.K Dc th tr):=by
 intro J2 n s σ H D a C od I y o ⟨G,b,t,ex,h⟩;cases t;obtain⟨J,g,_⟩:=I.exc o.trk;refine wpAny_handleBy_cons (codeAny_handlers_test ?_) (by intro q;cases q);refine iG (X:=X.hnd (.ref a)) (I.hnd (.ref a)) p r ?_ m;refine(PySem.W.exm_one (M:=model X.prog X.w) I.kIn (B7 g) ex).here ?_;cases b with
 |false=>exact l J2 n s σ H D a C od I y o h
 |true =>
  refine codeAny_handlers_suite (z9 I y o fun x A B=>?_);refine bV (k a J2 x _ H _ (A.hnd (.ref a)) h) (fun f L j=>?_) fun _ _ z=>bx z;cases f with
  |next=>obtain⟨σ',d,e,q⟩:=j;exact⟨σ',d,e.unhnd I.ok,q⟩
  |brk=>obtain⟨σ',d,e,q⟩:=j;exact⟨σ',d,e.unhnd I.ok,q⟩
  |cont=>obtain⟨σ',d,e,q⟩:=j;exact⟨σ',d,e.unhnd I.ok,q⟩
  |ret u=>obtain⟨v,σ',d,e,E,q⟩:=j;exact⟨v,σ',d,e.unhnd I.ok,E,q⟩
end
end
structure Fp(P:aU)(w:World)(K:Za)(mg:Str->Option Value)(base:Heap)(x:Str)(ps:Zb)(k:Nat)(sp:Sp):Prop where
 ex:∃f fd,ig P w K mg base (BY P w K) k f fd ps sp/\mg x=some (.ref f)/\dh K (.ref f)=true/\Binds K fd ps []
structure GN(P:aU)(w:World)(K:Za)(mg:Str->Option Value)(base:Heap)(x:Str)(C:Addr)(ps:Zb)(k:Nat)(sp:Sp):Prop where
 ex:∃f fd,ig P w K mg base (BY P w K) k f fd ps sp/\mg x=some (.ref C)/\Mk K C f/\Binds K fd ps []
section
variable{X:Cx}{k:Nat}{ps:Zb}{sp:Sp}{E:XK}{x:Str}{C:Addr}{p pos np J3:Pos}{e:Expr}{es:List Expr}{t:TA}{st:Stmt}{ts:TS}
theorem CY(D:Fp X.prog X.w X.K X.mg X.base x ps k sp)(g:cV k X.A)(h:Gl X x)(i:PA X.nox (e::es) t)(a:(x==("__debug__":Str))=false:=by decide)
  (j:aq (e::es) X.env=(false,eval e X.env)::aq es X.env:=by rfl) (d:(backTo pos (aq es X.env)).any (·.1)=false:=by rfl) :
  B2 X (.Call (.Name x p) (e::es) [] pos) (fun W=>rN sp [] W t):=by
 obtain⟨f,o,F,l,m,n⟩:=D.ex;exact CZ F g h l m n i a j d
theorem Au(D:GN X.prog X.w X.K X.mg X.base x C ps k sp)(g:cV (k+1) X.A)(h:Gl X x)(i:PA X.nox (e::es) t)(a:(x==("__debug__":Str))=false:=by decide)
  (j:aq (e::es) X.env=(false,eval e X.env)::aq es X.env:=by rfl) (d:(backTo pos (aq es X.env)).any (·.1)=false:=by rfl) :
  B2 X (.Call (.Name x p) (e::es) [] pos) (fun W=>rJ C sp [] W t):=by
 obtain⟨f,n,F,l,M,m⟩:=D.ex;exact CW M F g h l m i a j d
end
section
variable{P:aU}{w:World}{K:Za}{mg:Str->Option Value}{base:Heap}
theorem FY.okX{x a:Str}{st:Stmt}{f:Addr}{m:eX}{N h:Zb}{k:Nat}{i:Sp}(F:FY K x a st f m)(S:fo N h (aY st))(len:∀e H Q E,i e H Q E->e.length=h.length)
  (g:∀(d:Value) (A:Around) (outer:List Env) (s:Shared) (H:Hp) (e:List V) (Q:VK) (E:XK),cV k (A.deeper (envOfC a (aY st) s.heap.objs.size f d))->i e H Q E ->
   ∃t,uE (tG (BY P w K) P w K mg base N a (aY st) f d A outer s H E) (eh st) t/\t (bJ Q) (start N e) H):ig P w K mg base (BY P w K) (k+1) f m h i:=by
 obtain⟨p,q,kV,doc,r,u,d,v,n,rfl,lk,j⟩:=F.ex;refine FK lk j S len fun A outer s H e Q E o l=>?_;exact g d A outer s H e Q E o l
end
end L2
namespace L2
open PySem PySem.W
theorem GD{K:Frag}{C D:Addr}{b:Bool}(d:subIn K (.ref D) (.type "BaseException")=some true)(e:isClsIn K D=true)(f:typeIn K (.ref D)=some (.type "type"))(g:subIn K (.ref C) (.ref D)=some b):exmOne K (.ref C) (.ref D)=some b:=by
 have a:(clsIn K D).isSome=true:=e;unfold exmOne;rw[d,if_pos (by decide)];show(if((clsIn K D).isSome && typeIn K (.ref D)==some (.type "type"))=true then subIn K (.ref C) (.ref D)else none)=some b
 rw[if_pos (by rw[a,f];decide)];exact g
def vD(K:Za)(td ty tv:TE):TS:=fun D σ H=>tv σ H fun v H1=>td σ H1 fun x H2=>ty σ H2 fun y H3 =>
 ∃(a b:Addr) (kvs:List (TK×V)) (k:TK),x=.ref a/\y=.ref b/\H3 a=some (.dT kvs)/\pd K H3 k (.ref b)/\k.depth<=8/\kvs.length<aj/\D.nx σ (upd H3 a (.dT (dI kvs k v)))
section
variable{X:Cx}{o i value:Expr}{pos pos':Pos}{td ty tv:TE}
theorem CQ(g:X.A.units+16<cLine)(j:PE X o td)(hi:PE X i ty)(m:PE X value tv)(n:jX value (some (.Subscript o i pos')) pos.line X.env=pure false):
  PS X (.Assign [.Subscript o i pos'] value pos) (vD X.K td ty tv):=by
 intro d s σ H D I h;refine wpAny_Assign_Subscript (bY (m d s σ H _ I h) fun r p ⟨v,q,t,w,z⟩=>bY (j d p σ q _ t z) fun u B ⟨x,C,E,G,J⟩=>bY (hi d B σ C _ E J) fun iv s3 f=>?_) n;obtain⟨y,H3,L,M,a,b,N,k,ex,O,e,Q,T,l,U⟩:=f;subst ex;subst O;obtain rfl:u=Value.ref a:=G;exact sr g L e Q T l M w fun s4 Y=>⟨σ,_,Y,U⟩
end
theorem t9{K:Za}{H:Hp}:∀xs:List Str,TKCs K H (xs.map fun x=>TK.k (some (.inr x))) (xs.map V.str)
 |[]=>by show TKCs K H [] [];unfold TKCs;rfl
 |x::xs=>by
  rw[bg,bg];unfold TKCs;refine⟨_,_,rfl,?_,t9 xs⟩;unfold pd
  rfl
theorem wA{K:Za}{H:Hp}{a:Addr}{xs:Zb}(h:jH K H a (xs.map V.str)):pd K H (.t (xs.map fun x=>TK.k (some (.inr x)))) (.ref a):=by
 unfold pd;exact⟨a,_,rfl,h,t9 xs⟩
def Gh(K:Za):R2:=fun x y H Q=>∃(p q:Addr) (l m:List Bool),x=.ref p/\y=.ref q/\aH K H p (l.map V.bl)/\aH K H q (m.map V.bl)/\Q (.bl (decide (l=m))) H
theorem zo{l m:List Bool}(d:l.length=m.length):((bO l.length).all fun j=>decide (l[j]?=m[j]?))=decide (l=m):=by
 by_cases e:l=m
 ·subst e;simp
 ·rw[zzr0 e,List.all_eq_false];apply qY;intro h;refine e (List.ext_getElem? fun i=>?_);rcases lS i l.length with hi|hi
  ·apply qY;intro a;exact h ⟨i,i8.mpr hi,by simpa using a⟩
  ·rw[fD (by omega),fD (by omega)]
section
variable{X:Cx}
theorem DN{A:Around}{s:Shared}{l m:List Bool}{i j:Zf}(hi:aP (l.map V.bl) i)(k:aP (m.map V.bl) j):∀n (a:n<i.toArray.size) (d:n<j.toArray.size),aQ A s i.toArray[n] j.toArray[n] (decide (l[n]?=m[n]?)):=by
 intro n a d;have get:∀{l:List Bool}{i:Zf}(hi:aP (l.map V.bl) i) (h:n<i.toArray.size),∃b,l[n]?=some b/\i.toArray[n]=.bool b:=by
  intro l i hi h;obtain⟨e,q⟩:=DO hi (i:=n) (v:=i.toArray[n]) (by simp);have f:=hi.length;rw[ao]at f;have g:n<l.length:=by rw[f];simpa using h
  refine⟨l[n],bZ g,?_⟩;rw[e,bZ g]
  rfl
 obtain⟨b,o,p⟩:=get hi a;obtain⟨c,r,t⟩:=get k d;rw[o,p,r,t];have:=aQ.bool_bool (A:=A) (s:=s) b c;rwa[show(b==c)=decide (some b=some c) by cases b<;>cases c<;>rfl]at this
theorem Gr(E:X.A.units+16<cLine):n6 X (dZ .Eq) (Gh X.K):=by
 intro G s σ H x y v u Q I o t h;obtain⟨p,q,l,m,rfl,rfl,B,C,k⟩:=h;cases o;cases t;obtain⟨i,a,d,_⟩:=I.list B;obtain⟨j,f,g,_⟩:=I.list C;have n:=a.length;have D:=f.length;rw[ao]at n D;by_cases e:l.length=m.length
 ·have r:=SeqAt.RcAt.lists (A:=X.A) d.isList g.isList (by simp;omega) (by omega) (DN a f);rw[bt,<-n,zo e]at r;exact r X.prog X.w X.xe _ ⟨.bl _,H,I,rfl,k⟩
 ·have ne:¬l=m:=fun z=>e (by rw[z]);have r:=SeqAt.RcAt.lists_lengths (A:=X.A) d.isList g.isList (by simp;omega) (by omega);rw[zzr0 ne]at k;exact r X.prog X.w X.xe _ ⟨.bl _,H,I,rfl,k⟩
end
section
variable{prog:aU}{w:World}{A:Around}{E:Zc}{s:Shared}{K:Za}{x C:Addr}{ox:Obj}{odo:Option Obj}
open PySem.W
theorem D_{Q:Option Value->Shared->Prop}(X:K.In s.heap)(c:v9 K C)(I:InstAt s.heap x ox C odo)(hf:findObj K C odo "__class__"=some (.bind (.builtin "getset_descriptor.__get__") (.builtin "object.__class__")))
  (i:mroIn K C (.type "object")=some true) (h:Q (some (.ref C)) { s with toks:=s.toks+1 }):wpAny (model prog w) A (uV (.ref x) "__class__") Q E s:=by
 obtain⟨cd,j,a,n⟩:=c.cd;have G:=PySem.F.attrBase_ValueError;obtain⟨f,g,d,t,os⟩:=s;dsimp only at I X;have e:=I.type (M:=model prog w);have k:=looks_findIn (M:=model prog w) X c.ga;have L2:=looks_findIn (M:=model prog w) X c.gx;have l:=looks_find (M:=model prog w) X I hf;have sub:Looks (model prog w) f (z5 (.ref x) (.type "BaseException")) true:=e.andThen (G5 X j a (by decide +kernel));unfold uV getAttrBy? getAttrBy;refine ac (wpAny_mkText (ac (iQ (fz (ac (e.at (ac (k.at ?_))))))));have ne:(onTheHeap (Value.ref C) && wr "BaseException.__getattribute__"==wr "object.__getattribute__")=false:=by
  rw[show(wr "BaseException.__getattribute__"==wr "object.__getattribute__")=false from by decide +kernel,va]
 dsimp only;rw[ne,if_neg (by decide)];have m:Looks (model prog w) f (hookBefore (.ref C)) none:=L2;refine ac (m.at (ac (iQ (fz ?_))));unfold callGetattribute;rw[show(false && onTheHeap (wr "BaseException.__getattribute__"))=false from rfl,if_neg (by decide)];unfold boundAndCalled;rw[G.ga.bind];refine ac (ak ?_);show wpAny _ _ (call (.builtin "BaseException.__getattribute__") [.ref x,.str "__class__" _]) _ _ _;refine ju (codeAny_call_builtin G.ga.plain PySem.F.entry_bexc_ga ?_);refine @check_slot (model prog w) _ _ _ "BaseException.__getattribute__" "BaseException" "__getattribute__" (.ref x) [.str "__class__" _] [] _ (by decide +kernel) (by decide +kernel) sub (PySem.F.args_bexc_ga _ _) ?_;unfold aS.«object.__getattribute__»;refine ac (ak (ac (ak (ac (e.at (ac (l.at ?_)))))));show wpAny _ _ (aS.ObjectAttr.bindTo (.builtin "getset_descriptor.__get__") (.builtin "object.__class__") (.ref x) (.ref C)) _ _ _;unfold aS.ObjectAttr.bindTo;show wpAny _ _ (i7 [wr "object.__class__"] (call (.builtin "getset_descriptor.__get__") [.builtin "object.__class__",.ref x,.ref C]) >>= ret) _ _ _;refine ac (fz (ju (class_get (ox:=ox) (od:=odo) X I i ?_)));show wpAny _ _ (ret (Value.ref C)) _ _ _;refine ak ?_;show wpAny _ _ (handedOut (Value.ref C)) _ _ _;rw[handedOut_of (by rfl)];exact ak (ak h)
theorem xF(d:(clsIn K C).isSome=true)(e:findIn K (.ref C) "__class__"=some (some (.builtin "object.__class__")))(f:specialIn K (.builtin "object.__class__") "__get__"=some (some (.builtin "getset_descriptor.__get__")))(a:takesIn K (.builtin "object.__class__")=some true):
  findObj K C odo "__class__"=some (.bind (.builtin "getset_descriptor.__get__") (.builtin "object.__class__")):=by
 cases odo with
 |some o=>exact findObj_data d e f a
 |none =>
  obtain⟨cd,d⟩:=rA.mp d;unfold findObj;rw[d,Option.bind_some,e,Option.bind_some];simp[f,a]
structure HZ(K:Frag)(C:Addr):Prop where
 cls:v9 K C
 ha:findIn K (.ref C) "__class__"=some (some (.builtin "object.__class__"))
 hn:specialIn K (.builtin "object.__class__") "__get__"=some (some (.builtin "getset_descriptor.__get__"))
 htk:takesIn K (.builtin "object.__class__")=some true
 hm:mroIn K C (.type "object")=some true
theorem Db(k:HZ K C):KitX K (.ref x) (.ref C) (fun h=>∃ox odo,InstAt h x ox C odo):=by
 obtain⟨p,q,N,bs,r,t,sub,u,f,g,v,y,B,D,G,d,H⟩:=k.cls.obj;obtain⟨cd,i,j,J⟩:=k.cls.cd;refine⟨fun _ _ _ ⟨_,_,I⟩=>I.type,fun M h X _=>?_,fun h l g m n L X a=>?_,fun X ⟨_,_,I⟩ q=>D_ X k.cls I (xF (by rw[i];rfl) k.ha k.hn k.htk) k.hm q⟩
 ·intro O Q T U o q;unfold isType loadHead;exact ac (wpAny_loadPart (o _ _ (X _ _ d)) (ak q))
 ·refine Bool.eq_false_iff.mpr fun q=>?_;have e:C=l:=Value.ref.inj (beq_iff_eq.mp q);subst e;have z:=(X _ _ d).symm.trans a;simp[eQ]at z
end
def CF(K:Za):List V->Hp->VK->Prop:=fun xs H Q=>∃(a C:Addr) (od:Option Addr) (c:V) (u:Value) (b:Bool),xs=[.ref a,c]/\((∃d,c=.ref d/\u=.ref d)∨∃n,c=.ty n/\u=.type n)/\H a=some (.ext (fP a C od)) /\
 (od=none∨∃d fs,od=some d/\H d=some (.ext (FR d fs)))/\HZ K C/\gC K (.ref C) u=some b/\Q (.bl b) H
theorem nW{X:Cx}:fq X (.builtin "isinstance") (CF X.K):=by
 intro B s σ H xs D Q I r h;obtain⟨a,C,E,c,u,b,rfl,l,m,p,k,e,q⟩:=h;obtain⟨G,t,rfl,v,j⟩:=vals2 r;cases v;have x:t=u:=by
  rcases l with⟨d,rfl,rfl⟩|⟨n,rfl,rfl⟩
  ·exact j
  ·exact j
 subst x;obtain⟨J,g,_⟩:=I.exc m;have inst:∃y f,PySem.W.InstAt s.heap a y C f:=by
  rcases p with rfl|⟨d,fs,rfl,i⟩
  ·exact⟨_,_,D9 g⟩
  ·obtain⟨_,⟨o,A⟩,_⟩:=(show aZ X.prog X.w X.K H s.heap d (.ext (FR d fs))from I.hok d _ i);exact⟨_,_,FZ g A⟩
 exact iu (Db k) I.kIn inst e (fun z=>nomatch z) fun tk=>⟨.bl b,H,I.tok _,rfl,q⟩
section
variable{prog:aU}{w:World}{A:Around}{E:Zc}{h:Heap}{g:Array zY}{d:Drawn}{t:Nat}{os:OsState}
variable{nm q:Str}{C N:Addr}{bs bm:Zf}{hdct:Bool}{sn:Zb}{sub:Zf}{ab:Bool}{col:Option Bool}{dd:Option Addr}{k0 k1 k2 k3 k5:Option Value}
theorem B8(j:eB bm){a:Zf}{Q:Fin->Shared->Prop}(f:h.get? C=some (eQ nm q C N bs bm hdct sn sub ab col dd k0 k1 k2 k3 k5 "ValueError.__new__"))
  (hi:PySem.W.Looks (model prog w) h (j9 (.ref C) "__init__") (some (.builtin "ValueError.__init__"))) (m:a.length<=aj)
  (n:∀i,(∀b o,h.get? b=some o->i.get? b=some o)->i.objs.size=h.objs.size+2->i.get? (h.objs.size+1)=some { cls:=.ref C,data:=.fields #[.ref h.objs.size,.none,.none,.none,.bool false,.none] } ->
   wpAny (model prog w) A (call (.builtin "ValueError.__init__") (.ref (h.objs.size+1)::a)) (fun r k=>r=.none/\Q (.done (.ret (.ref (h.objs.size+1)))) k) E ⟨i,g,d,t,os⟩) :
  wpAny (model prog w) A (aS.«type.__call__» ⟨.ref C::a,[]⟩) Q E ⟨h,g,d,t,os⟩:=by
 repeat (first|with_reducible refine js f ?_|with_reducible refine wpAny_madeBy_exc f ?_|wp_step)
 refine codeAny_call_builtin_code (Code.quiet_builtin _ PySem.F.excBase_ValueError.quiet) (Ea j f (G6 j f m ?_));show wpAny _ _ _ _ _ _;have kp:∀b o,h.get? b=some o->((h.push { cls:=.type "tuple",data:=.seq a.toArray }).push { cls:=.ref C,data:=.fields #[.ref h.objs.size,.none,.none,.none,.bool false,.none] }).get? b=some o :=
  fun b o e=>aF _ (aF _ e)
 have p:=kp _ _ f;have l:((h.push { cls:=.type "tuple",data:=.seq a.toArray }).push { cls:=.ref C,data:=.fields #[.ref h.objs.size,.none,.none,.none,.bool false,.none] }).get? (h.objs.size+1)
  =some { cls:=.ref C,data:=.fields #[.ref h.objs.size,.none,.none,.none,.bool false,.none] }:=by heap_get
 have s:(Value.ref C::bm).contains (.ref C)=true:=by simp
 unfold z5
 repeat (first|with_reducible refine js l ?_|(with_reducible refine qQ p ?_;rw[s])|wp_step)
 show wpAny _ _ (j9 (.ref C) _) _ _ _;refine hi _ _ _ _ kp ?_;refine fz (ac ?_);rw[PySem.F.excBase_ValueError.init.bind];refine ak (ac (bV (n _ kp (by rw[gD,gD]) l) (fun r k u=>?_) fun _ _ x=>x));obtain⟨rfl,v⟩:=u
 wp_walk
 exact v
theorem Eb(i:eB bm){e:Zf}{Q:Zc}(f:h.get? C=some (eQ nm q C N bs bm hdct sn sub ab col dd k0 k1 k2 k3 k5 "ValueError.__new__"))
  (hi:PySem.W.Looks (model prog w) h (j9 (.ref C) "__init__") (some (.builtin "ValueError.__init__"))) (j:e.length<=aj)
  (k:∀a,(∀b o,h.get? b=some o->a.get? b=some o)->a.objs.size=h.objs.size+2->a.get? (h.objs.size+1)=some { cls:=.ref C,data:=.fields #[.ref h.objs.size,.none,.none,.none,.bool false,.none] } ->
   wpAny (model prog w) (A.under (.builtin "type.__call__" ⟨.ref C::e,[]⟩)) (call (.builtin "ValueError.__init__") (.ref (h.objs.size+1)::e)) (fun r l=>r=.none/\Q (.ref (h.objs.size+1)) l) E ⟨a,g,d,t,os⟩) :
  wpAny (model prog w) A (call (.ref C) e) Q E ⟨h,g,d,t,os⟩:=by
 have m:=tc_lookup;have n:=tc_bind (.ref C);have p:(⟨h,g,d,t,os⟩:Shared).TypeIs (.ref C) "type":=⟨_,f,rfl⟩;refine ju (codeAny_of_tree ?_);show wpAny _ _ (callAny (.ref C) _) _ _ _
 repeat (any_goals (first|assumption|with_reducible refine js f ?_|wp_step))
 exact⟨rfl,codeAny_call_builtin_at (Code.quiet_builtin _ (by decide +kernel)) entry_typeCall (wpAny_check_type_call_sub f (B8 i f hi j fun a a1 a2 a3=>k a a1 a2 a3))⟩
end
section
variable{X:Cx}{J2:Zd}{σ:St}{H:Hp}{s:Shared}{C:Addr}
theorem yv{us:Zf}(c:v9 X.K C)(hi:aR X.K (.ref C) "__init__"=some (some (.builtin "ValueError.__init__")))(I:Inv X J2 σ H s)(i:us.length<=aj){E:Zc}:
  wpAny (model X.prog X.w) X.A (call (.ref C) us) (fun u p=>u=.ref (s.heap.objs.size+1)/\Inv X J2 σ (upd H (s.heap.objs.size+1) (.ext (mP (s.heap.objs.size+1) C none))) p) E s:=by
 obtain⟨G,q,N,bs,J,L,sub,M,r,O,Q,T,U,Y,k5,e,v⟩:=c.obj;have j:=I.kIn;obtain⟨f,g,d,t,os⟩:=s;refine Eb (q:=q) (h:=f) v (j _ _ e) (PySem.W.looks_findIn j hi) i fun h' kp z k=>?_;have l:=I.laid (a:=f.objs.size+1) (o:=.ext (mP (f.objs.size+1) C none)) (h':=h') (t':=t) kp (iW _) (ux k rfl);refine Ec (s:=⟨h',g,d,t,os⟩) (od:=none) l.kIn c k i (Nat.succ_pos 5) fun y B m=>⟨rfl,rfl,?_⟩;have n:=l.write (x:=f.objs.size+1) (e:=f.objs.size+1) (o:=.ext (mP (f.objs.size+1) C none)) (h':=y) (t':=t) (by rw[aa];exact fy) (.inl rfl) (fun b u D q=>B b u D q) ⟨_,m⟩ (ux m (by rfl));rw[kM]at n;exact n
def wF(C:Addr)(t:TA):(St->XK)->TS:=fun W _ σ H=>t σ H fun vs H1=>vs.length<=aj/\∀a,H1 a=none->W σ (.ref C) (some a) (upd H1 a (.ext (fP a C none)))
theorem Bj{x:Str}{np k l:Pos}{e:Expr}{es:List Expr}{t:TA}(c:v9 X.K C)(hi:aR X.K (.ref C) "__init__"=some (some (.builtin "ValueError.__init__")))(kp:dh X.K (.ref C)=true)
  (hc:X.calm=true) (hg:Gl X x) (hm:X.mg x=some (.ref C)) (ha:PA X.nox (e::es) t) (m:(x==("__debug__":Str))=false:=by decide)
  (he:aq (e::es) X.env=(false,eval e X.env)::aq es X.env:=by rfl) (n:(backTo k (aq es X.env)).any (·.1)=false:=by rfl) :
  GY X (.Raise (some (.Call (.Name x np) (e::es) [] k)) none l) (wF C t):=by
 intro J2 s σ H D W I h;obtain⟨nm,q,N,bs,bm,sn,sub,J,col,L,M,k1,k2,O,T,eC,hv⟩:=c.obj;rw[arm_exec_Raise];simp only[evalOpt,Option.map];refine ac (wq (D8 (C:=C) (nm:=nm) (q:=q) (N:=N) (bs:=bs) (bm:=bm) (hdct:=true) (sn:=sn) (sub:=sub) (ab:=J) (col:=col) (dd:=L) (k0:=M) (k1:=k1) (k2:=k2) (k3:=O) (k5:=T) (newId:="ValueError.__new__") hv (I.ok.hd hc) ?_));refine ac (bV (Q:=fun v d=>∃a od p,v=.ref a/\d.heap.get? C=some (eQ nm q C N bs bm true sn sub J col L M k1 k2 O T "ValueError.__new__")/\d.heap.get? a=some { cls:=.ref C,dict:=od,data:=.fields p }/\p[1]?=some .none/\XS X J2 W (.ref a) d) ?_ (fun v s3 h3=>ac (wq (ak h3))) fun _ _ y=>y);refine j_ (iG I hg hm ?_ m);refine l_ (h₀:=X.base) I.ok.mod.kin kp (bV (ha k J2 s σ H _ (I.wish _) h) (fun us d ⟨p,H1,i,r,hz,q1⟩=>⟨i.kIn,?_⟩) fun _ _ z=>bx z) he n;have w:=i.unwish;refine bV (yv (us:=us) (E:=XS X J2 W) c hi w (by rw[<-r.length];exact hz)) (fun u U A=>?_) fun _ _ z=>z;obtain⟨eu,B⟩:=A;have q2:=q1 (d.heap.objs.size+1) (w.hok.fresh (iW _));have Y:upd H1 (d.heap.objs.size+1) (.ext (mP (d.heap.objs.size+1) C none)) (d.heap.objs.size+1)=some (.ext (mP (d.heap.objs.size+1) C none)):=aa;obtain⟨G,j,f⟩:=B.excN Y;refine⟨d.heap.objs.size+1,none,G,eu,B.kIn _ _ eC,j,f,?_⟩;have w1:1<G.size:=(iP.mp f).1;have I3:=B.write (x:=d.heap.objs.size+1) (e:=d.heap.objs.size+1) (o:=.ext (fP (d.heap.objs.size+1) C none)) (h':=U.heap) (t':=U.toks) (by rw[Y];exact fy) (.inl rfl) (fun b u _ g=>g) ⟨_,j⟩ (uw j w1);rw[kM]at I3;exact⟨d.heap.objs.size,_,C,none,σ,_,rfl,w.young,I3,⟨aa,iW _,G,none,j,w1,.inl ⟨f,rfl⟩,fun t z=>by cases z⟩,q2⟩
end
section
variable{X:Cx}
def fA(t u:(St->XK)->TS):(St->XK)->TS:=fun W=>aw (t W) (u W)
end
end L2
end

section
set_option Elab.async false
set_option linter.all false
set_option maxRecDepth 100000
namespace L2
open PySem PySem.Spec PyProof.Rows PySem.W
structure XO(K:Frag)(C:Addr)(bm:Zf):Prop where
 ex:∃nm q N bs sn sub ab col dd k0 k1 k2 k3 k5,K.lookup C=some (eQ nm q C N bs bm true sn sub ab col dd k0 k1 k2 k3 k5 "ValueError.__new__")
structure XG(K:Frag):Prop where
 hn:specialIn K (.builtin "object.__class__") "__get__"=some (some (.builtin "getset_descriptor.__get__"))
 htk:takesIn K (.builtin "object.__class__")=some true
structure XX(K:Frag)(mg:Str->Option Value)(x:Str)(C Ct:Addr):Prop where
 g:mg x=some (.ref C)
 o:XO K C (.ref Ct::fI)
 sa:findIn K (.ref C) "__setattr__"=some (some (.builtin "object.__setattr__"))
 ga:findIn K (.ref C) "__getattribute__"=some (some (.builtin "BaseException.__getattribute__"))
 gx:findIn K (.ref C) "__getattr__"=some none
 kp:keepIn K (.ref C)=true
 cl:findIn K (.ref C) "__class__"=some (some (.builtin "object.__class__"))
section
variable{K:Frag}{mg:Str->Option Value}{x y:Str}{C D Ct:Addr}{bm:Zf}
theorem XO.cls(h:XO K C bm):∃cd,clsIn K C=some cd/\cd.mro=.ref C::bm:=by
 obtain⟨d,q,N,bs,f,sub,g,a,i,j,k,l,m,n,e⟩:=h.ex;exact⟨_,by unfold clsIn;rw[e],rfl⟩
theorem XO.ty(h:XO K C bm):typeIn K (.ref C)=some (.type "type"):=by
 obtain⟨d,q,N,bs,f,sub,g,a,i,j,k,l,m,n,e⟩:=h.ex;show(K.lookup C).map (·.cls)=_;rw[e];rfl
theorem XO.sub(h:XO K C bm)(v:Value):subIn K (.ref C) v=some ((Value.ref C::bm).contains v):=by
 obtain⟨cd,e,m⟩:=h.cls;unfold subIn mroIn;dsimp only;rw[e];show(if cd.mro.isEmpty then none else some (cd.mro.contains v))=_
 rw[m];rfl
theorem XO.kitC(h:XO K C bm){a:Zf}(g:XO K D a):kitCls K (.ref C) (.ref D)=some ((Value.ref C::bm).contains (.ref D)):=by
 obtain⟨cd,e,m⟩:=g.cls;unfold kitCls;dsimp only;rw[e,g.ty,if_pos (show((some cd).isSome && some (Value.type "type")==some (Value.type "type"))=true by show(some (Value.type "type")==some (Value.type "type"))=true;decide)];exact h.sub _
theorem jA(a b:Addr):((Value.ref a)==(Value.ref b))=decide (b=a):=by
 by_cases e:b=a
 ·subst e;simp
 ·rw[zzr0 e];exact beq_false_of_ne fun z=>e (by injection z with z;exact z.symm)
theorem B_(a:Addr):fI.contains (Value.ref a)=false:=rfl
theorem XX.cls(h:XX K mg x C Ct):v9 K C:=by
 obtain⟨d,q,N,bs,f,sub,g,a,i,j,k,l,m,n,e⟩:=h.o.ex;exact⟨⟨d,q,N,bs,_,f,sub,g,a,i,j,k,l,m,n,e,.own .base⟩,h.sa,h.ga,h.gx⟩
theorem XX.exk(h:XX K mg x C Ct)(g:XG K):HZ K C:=by
 refine⟨h.cls,h.cl,g.hn,g.htk,?_⟩;have:=h.o.sub (.type "object");exact this
theorem XX.is(h:XX K mg x C Ct)(g:XX K mg y D Ct)(a:D≠Ct):kitOne K (.ref C) (.ref D)=some (decide (D=C)):=by
 unfold kitOne;by_cases e:D=C
 ·subst e;rw[if_pos (by simp),zzr1 rfl]
 ·rw[if_neg (by rw[jA,zzr0 e];decide),h.o.kitC g.o,zzr0 e,eR,eR,B_];have d:((Value.ref D)==(Value.ref C))=false:=by rw[jA];exact zzr0 fun z=>e z.symm
  have f:((Value.ref D)==(Value.ref Ct))=false:=by rw[jA];exact zzr0 fun z=>a z.symm
  rw[d,f];rfl
theorem XX.ve(h:XX K mg x C Ct):kitOne K (.ref C) (.type "ValueError")=some true:=by
 unfold kitOne;rw[if_neg (fun z=>by cases z)];unfold kitCls;dsimp only;rw[if_pos (by decide +kernel)];exact h.o.sub _
theorem XO.exm(h:XO K C bm){a:Zf}(g:XO K D a)(b:a.contains (.type "BaseException")=true):exmOne K (.ref C) (.ref D)=some ((Value.ref C::bm).contains (.ref D)):=by
 unfold exmOne;rw[g.sub,eR,b,if_pos (by simp)];exact h.kitC g
theorem XX.exm(h:XX K mg x C Ct)(g:XX K mg y D Ct)(a:D≠Ct):exmOne K (.ref C) (.ref D)=some (decide (D=C)):=by
 have d:((Value.ref D)==(Value.ref Ct))=false:=by rw[jA];exact zzr0 fun z=>a z.symm
 rw[h.o.exm g.o rfl,eR,eR,B_,d,jA];by_cases e:C=D
 ·subst e;simp
 ·rw[zzr0 e,zzr0 fun z=>e z.symm];rfl
end
theorem DM:gZ "ValueError"=some (.type "ValueError"):=by decide +kernel
theorem cJ{X:Cx}{b:Stmt}{t:TS}(h:PS X.nox b t):GY X b (jc t):=fun a s σ H D W I q=>bV (h a s σ H D (I.wish _) q) (fun _ _ z=>z.unwish) fun _ _ z=>bx z
structure zM(n:Nat)(h:Heap)(H:Hp)(a C:Addr)(od:Option Addr)(L:Addr):Prop where
 trk:H a=some (.ext (fP a C od))
 new:n<=a
 tr:∃vs t oT ts,h.get? a=some { cls:=.ref C,dict:=od,data:=.fields vs }/\vs[1]?=some (.ref t)/\n<=t/\t≠a/\h.get? t=some oT/\oT.data=.fields ts/\ts[3]?=some (rawInt L)/\H t=none
section
variable{M:Model}{A:Around}{E:Zc}{s:Shared}{base:Heap}{env:Env}{outer:List Env}{L e:Addr}{oe:Obj}{vs:Array Value}{Q:Unit->Shared->Prop}
theorem z8{d:Value}{f:Bool}(u:A.frames=some (env::outer))(x:s.heap.FunFrames base (env::outer))(hf:env.frame=some L)
  (y:s.heap.get? e=some oe) (r:oe.data=.fields vs) (m:1<vs.size)
  (h:∀t n B C,GQ (sR (env::outer)) e none s.heap t->t.get? e=some { oe with data:=.fields n }->n[1]?=some (.ref s.heap.objs.size) ->
   t.get? s.heap.objs.size=some B->B.data=.fields C->C[3]?=some (rawInt L)->Q () { s with heap:=t }) :
  wpAny M A (do let T <- frameOf env;let k <- entryPlaceOf L f;let U <- EntryCells.newEntry d T .none (rawInt L) .none k;qN (.ref e) 1 U) Q E s:=by
 have v:e∉sR (env::outer):=fun z=>by
  obtain⟨_,o,l,Y⟩:=x.mem z;rw[y]at l;cases l;exact Y vs r
 refine ac (wpAny_frameOf_fun u x hf fun a p=>ac (wpAny_entryPlaceOf fun k w=>?_));unfold EntryCells.newEntry newFields;refine ac (gm ?_ (w.sizeOk5 _ _ _ _ _));generalize D:({ cls:=.type "traceback",dict:=none,data:=.fields ([d,.ref L,.none,rawInt L,.none]++(if k.isEmpty then vg 6 Value.none else k)).toArray }:Obj)=g
 have dN:g.data=.fields ([d,.ref L,.none,rawInt L,.none]++(if k.isEmpty then vg 6 Value.none else k)).toArray:=by rw[<-D]
 have fN:g.isFreed=false:=by rw[<-D];rfl
 have G:a.get? e=some oe:=(p.2.1 e v).trans y;have H:=aF (h:=a) g G;have I:a.objs.size=s.heap.objs.size:=p.1;refine iS H r m ?_;have ne:a.objs.size≠e:=cI (ar G);have d3:=iR r (·.setIfInBounds 1 (Value.ref a.objs.size));have e3:=eU (fC (·.setIfInBounds 1 (Value.ref a.objs.size))) H (oB d3);have t3:((a.push g).update e (fC (·.setIfInBounds 1 (Value.ref a.objs.size)))).get? a.objs.size=some g:=(fG (a.push g) _ (br ne)).trans (bF a fN);have j:∀b o,b≠e->a.get? b=some o->((a.push g).update e (fC (·.setIfInBounds 1 (Value.ref a.objs.size)))).get? b=some o:=fun b o i q=>by
  rw[fG _ _ (br i)];exact aF _ q
 have J:((a.push g).update e (fC (·.setIfInBounds 1 (Value.ref a.objs.size)))).get? e=some { oe with data:=.fields (vs.setIfInBounds 1 (Value.ref a.objs.size)) }:=by
  rw[e3,Obj.mapF r]
 refine h _ _ _ _ ⟨fun b o q i _ N=>j b o i ((p.2.1 b N).trans q),fun b o q i _ N=>?_,fun b o q=>?_⟩ J ?_ (by rw[<-I];exact t3) dN ?_
 ·obtain⟨O,l⟩:=p.2.2 b o q;exact⟨O,j b _ i l⟩
 ·by_cases i:b=e
  ·rw[i];exact⟨_,J⟩
  ·obtain⟨O,l⟩:=p.2.2 b o q;exact⟨_,j b _ i l⟩
 ·rw[<-I];simp[m]
 ·simp
theorem D7{n:Nat}{T:Option Addr}(k:A.frames=some (env::outer))(I:s.heap.FunFrames base (env::outer))(hf:env.frame=some L)
  (p:s.heap.get? e=some oe) (r:oe.data=.fields vs) (U:Trc n s.heap e vs T)
  (h:∀j f x u,GQ (sR (env::outer)) e T s.heap j->j.get? e=some { oe with data:=.fields f }->f[1]?=some (.ref s.heap.objs.size) ->
   j.get? s.heap.objs.size=some x->x.data=.fields u->u[3]?=some (rawInt L)->Q () { s with heap:=j }):wpAny M A (oC (.ref e) env) Q E s:=by
 unfold oC;simp only[hf];rcases U with⟨l,rfl⟩|⟨t,x,u,rfl,l,_,y,v,g,J⟩
 ·refine ac (be p r l ?_);rw[if_neg (by decide)];exact z8 k I hf p r (iP.mp l).1 h
 ·refine ac (be p r l ?_);rw[if_pos (show(Value.ref t != Value.none)=true from by simp)];refine ac (be v g J ?_);rw[if_neg (show ¬((Value.none==rawInt L)=true)from by simp[rawInt])];refine ac (iS v g (iP.mp J).1 ?_);have a:∀b,b≠t->(s.heap.update t (fC (·.setIfInBounds 3 Value.none))).get? b=s.heap.get? b:=fun b d=>fG _ _ (br d);have Y:=eU (fC (·.setIfInBounds 3 Value.none)) v (oB (iR g _));have m:∀b o,s.heap.get? b=some o->(∀ws,o.data≠.fields ws)->b≠t:=fun b o d i q=>by
   rw[q,v]at d;cases d;exact i u g
  have sz:(s.heap.update t (fC (·.setIfInBounds 3 Value.none))).objs.size=s.heap.objs.size:=Heap.size_after_update ..;refine z8 (s:={ s with heap:=s.heap.update t (fC (·.setIfInBounds 3 Value.none)) }) k (I.of_keeps fun b o d i=>⟨o,(a b (m b o d i)).trans d,rfl⟩) hf ((a e (br y)).trans p) r (iP.mp l).1 ?_;intro j f B C w q1 N O q4 q5;rw[sz]at N O;refine h j f B C ⟨fun b o q D G H=>w.keep b o ((a b fun z=>G (by rw[z])).trans q) D (by simp) H,fun b o q D G H=>w.slot b o ((a b fun z=>G (by rw[z])).trans q) D (by simp) H,fun b o q=>?_⟩ q1 N O q4 q5;by_cases d:b=t
  ·rw[d];exact w.there t _ Y
  ·exact w.there b o ((a b d).trans q)
end
section
variable{X:Cx}{J2:Zd}{σ:St}{H:Hp}{s:Shared}{n:Nat}{a C:Addr}{od:Option Addr}
def Fly(X:Cx)(n:Nat)(h:Heap)(H:Hp)(a C:Addr)(od:Option Addr):Prop:=kK n h H a C od∨zM n h H a C od X.env.locals
theorem B5{M:Model}{Q:Unit->Shared->Prop}{E:Zc}(I:Inv X J2 σ H s)(y:nY X J2 n)(st:X.stack=X.env::X.outer)(i:X.env.frame=some X.env.locals)(fl:Fly X n s.heap H a C od)
  (h:∀J,Inv X J2 σ H J->zM n J.heap H a C od X.env.locals->Q () J):wpAny M X.A (oC (.ref a) X.env) Q E s:=by
 rcases fl with fl|fl
 ·obtain⟨vs,T,e,z,tr,fT⟩:=fl.tr;have j:=I.stack;rw[st]at j;refine D7 (n:=n) (base:=X.base) (by rw[I.ok.frames,st]) j i e rfl tr fun h' k oT ts r q1 q2 q3 q4 q5=>?_;have z':1<k.size:=(iP.mp q2).1;have L:∀b∈sR (X.env::X.outer),H b=none:=fun b d=>I.stkFree b (by rw[st];exact d);have N:=Di I.hok fl.trk fT L r q1 z';have nT:∀t,T=some t->n<=t:=fun t G=>by
   rcases tr with⟨_,q⟩|⟨t',_,_,q,_,l,_⟩
   ·rw[q]at G;cases G
   ·rw[q]at G;cases G;exact l
  have O:∀b,b≠X.env.locals->b∉X.fs->b∉sR (X.env::X.outer):=fun b U h2 d=>by
   unfold sR at d;rw[tP,i]at d;exact(bA.mp d).elim U h2
  have f:∀b,H b=none->b≠a:=fun b d q=>by rw[q,fl.trk]at d;cases d
  obtain⟨m0,⟨oL,as,aC,u,rL⟩,_⟩:=id I.loc;have v:X.env.locals∈sR (X.env::X.outer):=by unfold sR;rw[tP,i];exact b_
  have Y:some X.env.locals≠T:=fun q=>absurd (nT _ q.symm) (iO y.loc);obtain⟨aN,ab⟩:=r.slot _ oL u (f _ I.free) Y v;refine h _ (I.step (g':=s.gens) (d':=s.drawn) (t':=s.toks) (ch:=T.toList) (fun b d=>?_) (fun b o hL hf hc g w=>?_) (fun b o hL hf hc g w=>?_) (fun b o _ _ w=>w) (fun b o _ g=>r.there b o g)
   (fun _ _ g=>g) (fun _ _ _ g=>g) (fun b ps g=>⟨#[],by rw[g];simp⟩) (fun m hm=>?_) N I.bare) ⟨fl.trk,fl.new,k,s.heap.objs.size,oT,ts,q1,q2,?_,?_,q3,q4,q5,?_⟩
  ·have hT:T=some b:=by cases T with
    |none=>simp at d
    |some t=>simp at d;rw[d]
   have B:=nT b hT;exact⟨.inr (bN y.s0 B),fun q=>absurd B (iO (q▸y.loc)),fun x c g q=>absurd B (iO (q▸y.cell x c g)),fun p hp q=>absurd B (iO (q▸y.pin p hp))⟩
  ·exact r.keep b o g (f b w) (fun q=>hc (by rw[<-q];simp)) (O b hL hf)
  ·refine r.slot b o g (f b w) (fun q=>hc (by rw[<-q];simp)) ?_;unfold sR;rw[tP,i];exact cO _ hf
  ·obtain⟨o',al,an,D,r'⟩:=hm;rw[u]at D;cases D;exact⟨_,al,an,ab,r'⟩
  ·exact bN (bN fl.new (dB (ar e))) (az _)
  ·exact cI (ar e)
  ·exact I.hok.fresh (az _)
 ·obtain⟨vs,t,oT,ts,e,U,B,aT,hT,ap,h3,nt⟩:=fl.tr;unfold oC;simp only[i];refine ac (be e rfl U ?_);rw[if_pos (show(Value.ref t != Value.none)=true from by simp)];refine ac (be hT ap h3 ?_);rw[if_pos (show(rawInt X.env.locals==rawInt X.env.locals)=true from by simp)];exact ak (h s I fl)
theorem B6{M:Model}{A:Around}{Q:Unit->Shared->Prop}{E:Zc}{L:Addr}(m:Option Addr)(I:Inv X J2 σ H s)(y:nY X J2 n)(G:zM n s.heap H a C od L)
  (h:∀k l t r u,Inv X J2 σ H k->k.heap.get? a=some { cls:=.ref C,dict:=od,data:=.fields l }->l[1]?=some (.ref t)->n<=t->t≠a->k.heap.get? t=some r->r.data=.fields u->u[3]?=some (m.elim Value.none fun f=>rawInt f)->H t=none->Q () k) :
  wpAny M A (qO (.ref a) m) Q E s:=by
 obtain⟨l,t,r,u,e,w,i,j,z,d,B,D⟩:=G.tr;unfold qO;refine ac (be e rfl w ?_);rw[if_pos (show(Value.ref t != Value.none)=true from by simp)];refine iS z d (iP.mp B).1 ?_;have kp:∀b o,b≠t->s.heap.get? b=some o->(s.heap.update t (fC (·.setIfInBounds 3 (m.elim Value.none fun f=>rawInt f)))).get? b=some o:=fun b o J g=>by
  rw[fG _ _ (br J)];exact g
 have v:=(iP.mp B).1;exact h _ l t _ _ (I.turned (t':=s.toks) (it:=t) kp D (fun q=>absurd i (iO (q▸y.loc))) (.inr (bN y.s0 i)) (fun x c g q=>absurd i (iO (q▸y.cell x c g))) (fun p N q=>absurd i (iO (q▸y.pin p N))))
  (kp a _ (br j) e) w i j (eU _ z (oB (iR d _))) (iR d _) (by simp[v]) D
theorem z7{M:Model}{Q:Unit->Shared->Prop}{E:Zc}(I:Inv X J2 σ H s)(y:nY X J2 n)(st:X.stack=X.env::X.outer)(g:X.env.frame=some X.env.locals)(i:Fly X n s.heap H a C od)
  (h:∀d,Inv X J2 σ H d->kK n d.heap H a C od->Q () d):wpAny M X.A (oC (.ref a) X.env) (fun _ d=>wpAny M X.A (qO (.ref a) none) Q E d) E s:=by
 refine B5 I y st g i fun D j e=>B6 none j y e fun k l t m o p q f r u v w x z=>h k p ⟨e.trk,e.new,l,some t,q,(iP.mp f).1,.inr ⟨t,m,o,rfl,f,r,u,v,w,x⟩,fun G B=>by cases B;exact z⟩
def Fg(X:Cx)(J2:Zd)(W:St->XK)(e:Value)(s':Shared):Prop:=∃n a C od σ' H',e=.ref a/\nY X J2 n/\Inv X J2 σ' H' s'/\Fly X n s'.heap H' a C od/\W σ' (.ref C) (some a) H'
theorem XS.two{W:St->XK}{e:Value}{d:Shared}(h:XS X J2 W e d):Fg X J2 W e d:=let⟨n,a,C,od,σ',f,g,y,I,i,q⟩:=h;⟨n,a,C,od,σ',f,g,y,I,.inl i,q⟩
theorem rB{W:St->XK}{M:Model}(st:X.stack=X.env::X.outer)(f:X.env.frame=some X.env.locals):wo M X.A X.env (Fg X J2 W):=by
 rintro e J ⟨n,a,C,od,σ',j,rfl,y,I,k,q⟩;refine B5 I y st f k fun L l d=>?_;obtain⟨g,t,h,i,m,o,N,p,O,r,Q,T⟩:=id d.tr;refine ac (be m rfl o ?_);rw[if_neg (show ¬((Value.ref t==Value.none)=true)from by simp)];rw[f];exact B6 (some X.env.locals) l y d fun U g t h i u v w x z B D E G=>⟨n,a,C,od,σ',j,rfl,y,u,.inr ⟨d.trk,d.new,g,t,h,i,v,w,x,z,B,D,E,G⟩,q⟩
end
def PY(X:Cx)(b:List Stmt)(t:(St->XK)->TS):Prop:=∀(J2:Zd) (s:Shared) (σ:St) (H:Hp) (D:eD) (W:St->XK),Inv X J2 σ H s->t W D σ H->wpAny (model X.prog X.w) X.A (execs b X.env) (SP X J2 D) (Fg X J2 W) s
def GX(X:Cx)(b:Stmt)(t:(St->XK)->TS):Prop:=∀(J2:Zd) (s:Shared) (σ:St) (H:Hp) (D:eD) (W:St->XK),Inv X J2 σ H s->t W D σ H->wpAny (model X.prog X.w) X.A (exec b X.env) (SP X J2 D) (Fg X J2 W) s
section
variable{X:Cx}{J2:Zd}{σ:St}{H:Hp}{s:Shared}{t u:(St->XK)->TS}{b:Stmt}{bs:List Stmt}{pos:Pos}
theorem qr(h:GY X b t):GX X b t:=fun J2 s σ H D W I q=>bV (h J2 s σ H D W I q) (fun _ _ z=>z) fun _ _ z=>z.two
theorem h_(h:GX X b t):PY X [b] t:=by
 intro J2 s σ H D W I q;refine zW (bV (h J2 s σ H D W I q) (fun f a q=>?_) fun _ _ y=>y);cases f with
 |next=>exact mW q
 |ret v=>exact q
 |brk=>exact q
 |cont=>exact q
theorem cy(h:GX X b t)(a:PY X bs u):PY X (b::bs) (fA t u):=by
 intro J2 s σ H D W I q;refine zW (bV (h J2 s σ H _ W I q) (fun f d q=>?_) fun _ _ y=>y);cases f with
 |next=>obtain⟨σ1,e,g,i⟩:=q;exact a J2 d σ1 e D W g i
 |ret v=>exact q
 |brk=>exact q
 |cont=>exact q
theorem CK:PY X [] (jc bD):=fun _ _ σ H _ _ I h=>mW ⟨σ,H,I,h⟩
theorem FD{c:Expr}{a b:List Stmt}{f:TT}{g i:(St->XK)->TS}(n:PT X.nox c f)(o:PY X a g)(p:PY X b i):GX X (.If c a b pos) (Gd f g i):=by
 intro J2 s σ H D W I h;refine wpAny_If (bV (n J2 s σ H _ (I.wish _) h) (fun d j e=>?_) fun _ _ z=>bx z);obtain⟨k,l,m⟩:=e;cases d with
 |true=>exact o J2 j σ k D W l.unwish m
 |false=>exact p J2 j σ k D W l.unwish m
def Fw(wi:TI)(g:TG)(tb:(St->XK)->TS):(St->XK)->TS:=fun W=>fK wi g (tb W)
def Ad(tc:TT)(tb:(St->XK)->TS):(St->XK)->TS:=fun W=>yj tc (tb W)
theorem Fg.unpinned{f:Zd}{W:St->XK}{e:Value}{d:Shared}(h:Fg X (J2++f) W e d):Fg X J2 W e d:=by
 obtain⟨n,a,C,g,σ',i,j,y,I,k,q⟩:=h;exact⟨n,a,C,g,σ',i,j,⟨y.s0,y.loc,y.cell,fun p l=>y.pin p (by rcases bM.mp l with z|z;exact eM _ z;exact dA _ (eM _ z))⟩,I.unpinned,k,q⟩
theorem CJ{c:Expr}{a:List Stmt}{q:TT}{r:(St->XK)->TS}(L:PT X.nox c q)(M:PY X a r)(st:X.stack=X.env::X.outer:=by rfl)(O:X.env.frame=some X.env.locals:=by rfl):GX X (.While c a [] pos) (Ad q r):=by
 intro J2 s σ H D E I h;obtain⟨W,⟨Q,T⟩,turn⟩:=h;have x:wo (model X.prog X.w) X.A X.env (Fg X J2 E):=rB st O;refine wpAny_While (codeAny_whileLoop (fun n U=>∃σ' y,Inv X J2 σ' y U/\W n σ' y) ?_ Q ⟨σ,H,I,T⟩);rintro n Y ⟨σ1,B,I1,w1⟩;refine iw x (bV (L J2 Y σ1 B _ (I1.wish _) (turn n σ1 B w1)) (fun b s2 i=>?_) fun _ _ z=>bx z);obtain⟨C,j,e⟩:=i;have G:=j.unwish;cases b with
 |true =>
  obtain⟨N,J,e⟩:=e;rw[if_pos rfl];refine iw x (bV (M J2 s2 σ1 C _ E G e) (fun f s3 g=>?_) fun _ _ z=>z);cases f with
  |next =>
   obtain⟨σ3,d,k,l⟩:=g;obtain⟨m,o,p⟩:=J σ3 d l;exact⟨m,o,σ3,d,k,p⟩
  |cont =>
   obtain⟨σ3,d,k,l⟩:=g;obtain⟨m,o,p⟩:=J σ3 d l;exact⟨m,o,σ3,d,k,p⟩
  |brk=>exact g
  |ret v=>exact g
 |false =>
  rw[if_neg fX];exact mW ⟨σ1,C,G,e⟩
theorem Gi{tg j:Expr}{B:List Stmt}{wi:TI}{g:TG}{tb:(St->XK)->TS}(hc:X.calm=true)(hi:PI X.nox tg j wi)(hg:PG X.nox tg g)(k:PY X B tb)
  (hs:∀x,tL j X.env x=pure x:=by intro _;rfl) (st:X.stack=X.env::X.outer:=by rfl) (sf:X.env.frame=some X.env.locals:=by rfl):GX X (.For tg j B [] pos) (Fw wi g tb):=by
 intro J2 s σ H D E I h;have M:wo (model X.prog X.w) X.A X.env (Fg X J2 E):=rB st sf;refine wpAny_For (bV (hi J2 s σ H _ (I.wish _) h) (fun v s1 h1=>bV h1 (fun aC s2 h2=>?_) fun _ _ z=>bx z) fun _ _ z=>bx z) hs;obtain⟨it,L,tn,J,H2,e,ab,T,al,an,W,⟨m0,w0⟩,turn⟩:=h2;subst e;have I2:=ab.unwish;have f2:∀b∈L,kJ X J2 H2 b:=an;have l:∀{y:Hp},(∀b∈L,y b=none)->∀b∈L,kJ X J2 y b:=fun hn b k=>⟨hn b k,(f2 b k).2⟩;refine codeAny_forLoop_any (fun n s'=>∃i σ' y,Inv X J2 σ' y s'/\tn i s'.heap/\(∀b∈L,y b=none)/\W i n σ' y) ?_ m0 ⟨0,σ,H2,I2,al,fun b k=>(f2 b k).1,w0⟩;rintro n s3 ⟨i,σ3,Y,I3,O,Q,w3⟩;rcases turn i n σ3 Y w3 with⟨stop,qn⟩|⟨go,N,hN,step⟩
 ·refine iw M (bV (T.done X rfl rfl rfl hc i J2 s3 σ3 Y _ I3 (l Q) O stop) (fun r s4 a=>?_) fun _ _ z=>z);obtain⟨hr,I4⟩:=a;subst hr;exact mW ⟨σ3,Y,I4,qn⟩
 ·refine iw M (bV (T.item X rfl rfl rfl hc i J2 s3 σ3 Y _ I3 (l Q) O go) (fun r s4 a=>?_) fun _ _ z=>z);obtain⟨u,hr,h4⟩:=a;subst hr;refine iw M (bV h4 (fun _ s5 a=>?_) fun _ _ z=>z);obtain⟨x,H5,I5,r5,y5,G,ap⟩:=a;have as:=I5.pinned (l ap) (T.obj _ _ G);refine iw M (bV (hg _ s5 σ3 H5 x u _ (as.wish _) r5 (step x H5 y5)) (fun _ s6 a=>?_) fun _ _ z=>bx z);obtain⟨σ6,H6,I6,q6⟩:=a;refine iw M (bV (k _ s6 σ6 H6 _ E I6.unwish q6) (fun f s7 C=>?_) fun _ _ z=>z.unpinned);have again:∀{σ7:St}{p:Hp},Inv X (J2++o5 L s5.heap) σ7 p s7->N σ7 p->∃m,m<n/\∃i σ' y,Inv X J2 σ' y s7/\tn i s7.heap/\(∀b∈L,y b=none)/\W i m σ' y:=fun{σ7 p} q U=>by
   obtain⟨m',hm,w7⟩:=hN σ7 p U;refine⟨m',hm,i+1,σ7,p,q.unpinned,T.keep _ _ _ G fun b k o e=>(q.pin (b,o) (dA _ (dA _ (fM k e)))).1,fun b k=>?_,w7⟩;obtain⟨o,e,d⟩:=T.obj _ _ G b k;exact(q.pin (b,o) (dA _ (dA _ (fM k e)))).2.1
  cases f with
  |next=>obtain⟨σ7,p,q,U⟩:=C;exact again q U
  |cont=>obtain⟨σ7,p,q,U⟩:=C;exact again q U
  |brk=>obtain⟨σ7,p,q,C⟩:=C;exact⟨σ7,p,q.unpinned,C⟩
  |ret v=>obtain⟨x7,σ7,p,q,r7,C⟩:=C;exact⟨x7,σ7,p,q.unpinned,r7,C⟩
theorem As{d:List Stmt}{j:uS}{k:List uS}{l:(St->XK)->TS}{g:eD->St->XK}(m:PY X d l)(o:PH X (j::k) g)(st:X.stack=X.env::X.outer:=by rfl)(p:X.env.frame=some X.env.locals:=by rfl):
  PS X (.Try d (j::k) [] [] pos) (Ek l g):=by
 intro J2 s σ H D I h;refine wpAny_Try_except (bV (m J2 s σ H D (g D) I h) (fun f r q=>?_) fun e r ⟨n,a,C,w,σ',x,z,y,A,B,q⟩=>?_)
 ·cases f with
  |next=>exact mW q
  |ret v=>exact q
  |brk=>exact q
  |cont=>exact q
 ·subst z;exact z7 A y st p B fun E G i=>o J2 _ E σ' x D a C w G y i q
end
theorem rS{P:aU}{w:World}{K:Za}{k:Str->Option Value}{base:Heap}{N:Zb}{g:Str}{scope:Scope}{f:Addr}{cd:Value}{A:Around}{outer:List Env}{l:Shared}{m:Hp}{E:XK}{b:List Stmt}{t:(St->XK)->TS}
  (h:PY (tG (BY P w K) P w K k base N g scope f cd A outer l m E) b t):uE (tG (BY P w K) P w K k base N g scope f cd A outer l m E) b (t fun _=>E):=by
 intro o s σ H D I q;refine bV (h o s σ H D (fun _=>E) I q) (fun _ _ z=>z) fun e G j=>?_;obtain⟨n,a,C,p,σ',r,u,y,v,x,q⟩:=j;subst u;show wpAny _ _ _ _ _ _;unfold leaving;exact ac (z7 v y rfl rfl x fun B d i=>⟨a,C,p,r,rfl,d.os,d.bare,d.base,d.hok,i.mono y.s0,q⟩)
structure Fl(P:aU)(w:World)(K:Za)(mg:Str->Option Value)(base:Heap)(C:Addr)(m:Str)(ps:Zb)(k:Nat)(sp:Sp):Prop where
 ex:∃f fd,ig P w K mg base (BY P w K) k f fd ps sp/\xV K C/\DR K C m f/\Binds K fd ps []
section
variable{X:Cx}{k:Nat}{ps:Zb}{sp:Sp}{x m:Str}{C:Addr}{p pos J4:Pos}{o e:Expr}{es:List Expr}{t:TA}{ta:TE}
theorem vK{G:Sem Bool}(M:Fl X.prog X.w X.K X.mg X.base C m ps k sp)(hr:cV k X.A)(he:PE X.nox o ta)(ha:PA X.nox (e::es) t)
  (v:aq (e::es) X.env=(false,eval e X.env)::aq es X.env:=by rfl) (y:(backTo pos (aq es X.env)).any (·.1)=false:=by rfl)
  (ht:eval (.Call (.Attribute o m J4) (e::es) [] pos) X.env=(do
   let J <- eval o X.env
   mY J4.atName
   let(f,first) <- i7 [J] (mV J m G)
   l9 pos f first (backTo pos (aq (e::es) X.env)) (iY pos (iX [] X.env))):=by rfl) :
  B2 X (.Call (.Attribute o m J4) (e::es) [] pos) (fun W=>fZ C m sp [] W ta t):=by
 intro L s σ H Q W I h;obtain⟨f,fd,F,c,N,hb⟩:=M.ex;refine PySem.W.methodCall_KW (pl:=G) (bV (he L s σ H _ (I.wish _) h) (fun u s1 B=>?_) fun _ _ z=>bx z) ht;obtain⟨x,H1,D,rx,a,dx,fs,ex,ea,l,q⟩:=B;have O:=D.unwish;subst ex;obtain rfl:u=Value.ref a:=rx;refine my O ea c N l ?_;refine l_ (first:=[.ref a]) (h₀:=X.base) I.ok.mod.kin N.kp (bV (ha pos L s1 σ H1 _ (O.wish _) q) (fun d T ⟨U,H2,g,r,j⟩=>⟨g.kIn,?_⟩) fun _ _ z=>bx z) v y
 have n:=g.unwish;dsimp only at j;rw[cp]at j;have Y:aP (V.ref a::U) (Value.ref a::d):=.cons rfl r;have hl:((Value.ref a::d)++[]).length=ps.length:=by rw[cp,<-Y.length];exact F.len _ _ _ _ j
 have bd:=hb T (Value.ref a::d) n.kIn hl;rw[cp]at bd;refine ju (ma (F.run X.A X.stack T H2 ⟨Value.ref a::d,[]⟩ (Value.ref a::d) (V.ref a::U) Q W hr n.env0 bd Y j) fun E s' i=>?_);cases E with
 |error ev=>exact XE.of n i
 |ok fl =>
  cases fl with
  |ret u=>exact n.after i
  |next=>exact bx i
  |brk=>exact bx i
  |cont=>exact bx i
theorem EJ{T id:String}{name:Str}{j:Pos}{to:TE}{w:XK->TE}{r:V->List V->Hp->VK->Prop}(G:PlainAttrs T)(g:Slot T name id)(n:typeOf (.builtin id)=pure (.type "method_descriptor"))
  (J:∀E,G1 (X.wish E) id r) (L:PE X.nox o to) (M:B2 X e w)
  (a:jW o name X.env (eval o X.env)=eval o X.env:=by rfl)
  (i:((backTo j (aq [e] X.env)).all (fun x=>!x.1) && (iY j (iX [] X.env)).all (fun x=>x.1.isSome)
   && decide ([e].length+([]:List oH).length+(if([]:List oH).isEmpty then 0 else 1)<30))=true:=by rfl)
  (d:(J4.endLine==j.line)=true:=by rfl) (N:aq [e] X.env=[(false,eval e X.env)]:=by rfl) :
  B2 X (.Call (.Attribute o name J4) [e] [] j) (fun W=>xU X.K T r to (aK (w W))):=by
 intro l s σ H Q W I h;refine wpAny_Call_method_late a i d rfl (bV (L l s σ H _ (I.wish _) h) (fun v A f=>?_) fun _ _ z=>bx z);obtain⟨x,O,q,B,ty,U⟩:=f;have D:=q.unwish;obtain⟨Y,h2⟩:=x9 D B ty;refine⟨T,id,G,g,n,Y,h2,?_⟩;rw[N];refine lW rfl (Calls.evalArgs_plain ?_);show wpAny _ _ (tO [(false,eval e X.env)]) _ _ A;refine oK (bV (M l A σ O _ W D U) (fun u s2 f=>?_) fun _ _ z=>z);obtain⟨y,H2,I2,r2,q2⟩:=f;refine wl ?_;exact bV (J (XE X l σ W) l s2 σ H2 x [y] v [u] Q (I2.wish _) B (.cons r2 .nil) q2) (fun v s3 ⟨z,H3,I3,r3,q3⟩=>⟨z,H3,I3.unwish,r3,q3⟩) fun _ _ z=>z
theorem Bk{o i value:Expr}{d:Pos}{j ty:TE}{n:XK->TE}(q:X.A.units+16<cLine)(w:PE X.nox o j)(hi:PE X.nox i ty)(B:B2 X value n)(E:jX value (some (.Subscript o i d)) pos.line X.env=pure false):
  GY X (.Assign [.Subscript o i d] value pos) (fun W D σ H=>vD X.K j ty (n (W σ)) D σ H):=by
 intro f s σ H D W I h;refine wpAny_Assign_Subscript (bV (B f s σ H _ (W σ) I h) (fun r G ⟨v,J,L,M,N⟩=>bV (w f G σ J _ (L.wish _) N) (fun u O ⟨x,Q,T,U,Y⟩=>bV (hi f O σ Q _ T Y) (fun iv s3 g=>?_) fun _ _ z=>bx z) fun _ _ z=>bx z) fun _ _ z=>z.xs) E;obtain⟨y,H3,I3,ry,a,b,ab,k,ex,ey,e,eb,e8,l,q3⟩:=g;subst ex;subst ey;obtain rfl:u=Value.ref a:=U;exact sr q I3.unwish e eb e8 l ry M fun s4 I4=>⟨σ,_,I4,q3⟩
end
def Fs:Expr->List Str
 |.Name x _=>[x]
 |.Tuple es _ _=>es.filterMap fun e=>match e with | .Name x _=>some x|_=>none
 |_=>[]
theorem bK{X:Cx}{b:List Stmt}{t:TS}{D:eD}{σ:St}{H:Hp}(r:t D σ H)(p:uE X b t):∃t,uE X b t/\t D σ H:=⟨t,p,r⟩
section
variable{X:Cx}{k k0:Nat}{ps:Zb}{sp:Sp}{x m:Str}{C:Addr}{p pos J4:Pos}{o e a b:Expr}{es:List Expr}{t:TA}{ta tb te:TE}
theorem qf(g:cV k0 X.A)(D:lQ X.prog X.w X.K X.mg X.base x ps k sp)(h:PA X (e::es) t)(i:k<=k0:=by decide)(j:Gl X x:=by rfl)(d:(x==("__debug__":Str))=false:=by decide)
  (l:aq (e::es) X.env=(false,eval e X.env)::aq es X.env:=by rfl) (f:(backTo pos (aq es X.env)).any (·.1)=false:=by rfl) :
  PE X (.Call (.Name x p) (e::es) [] pos) (bG sp t):=FE D (g.mono i) j h d l f
theorem qm{h:Sem Bool}(j:cV k0 X.A)(M:DQ X.prog X.w X.K X.mg X.base C m ps k sp)(l:PE X o ta)(n:PA X (e::es) t)(q:k<=k0:=by decide)
  (d:aq (e::es) X.env=(false,eval e X.env)::aq es X.env:=by rfl) (g:(backTo pos (aq es X.env)).any (·.1)=false:=by rfl)
  (r:eval (.Call (.Attribute o m J4) (e::es) [] pos) X.env=(do
   let i <- eval o X.env
   mY J4.atName
   let(f,first) <- i7 [i] (mV i m h)
   l9 pos f first (backTo pos (aq (e::es) X.env)) (iY pos (iX [] X.env))):=by rfl) :
  PE X (.Call (.Attribute o m J4) (e::es) [] pos) (fZ C m sp [] E0 ta t):=Gp (pl:=h) M (j.mono q) l n d g r
theorem HQ{d:Sem Bool}(h:cV k0 X.A)(M:DQ X.prog X.w X.K X.mg X.base C m ps k sp)(i:PE X o ta)(j:k<=k0:=by decide)
  (l:eval (.Call (.Attribute o m J4) [] [] pos) X.env=(do
   let g <- eval o X.env
   mY J4.atName
   let(f,first) <- i7 [g] (mV g m d)
   l9 pos f first (backTo pos (aq [] X.env)) (iY pos (iX [] X.env))):=by rfl) :
  PE X (.Call (.Attribute o m J4) [] [] pos) (fZ C m sp [] E0 ta cv):=EL (pl:=d) M (h.mono j) i l
theorem xl(d:PE X a ta)(f:PE X b tb)(g:BU b:=by exact fun _ _=>rfl):PE X (.Subscript a b pos) (aJ (cR X.K) ta tb):=Av AI d f g
theorem xt(d:PE X a ta)(f:PE X b tb)(g:BU b:=by exact fun _ _=>rfl):PE X (.Subscript a b pos) (aJ (EC X.K) ta tb):=Av De d f g
theorem xq(d:PE X a ta)(f:PE X b tb)(g:BU b:=by exact fun _ _=>rfl):PE X (.Subscript a b pos) (aJ (B0 X.K) ta tb):=Av Gz d f g
theorem xs'(d:PE X a ta)(f:PE X b tb)(g:BU b:=by exact fun _ _=>rfl):PE X (.Subscript a b pos) (aJ yF ta tb):=Av Df d f g
theorem vi{d:CmpOp}{r:R2}(f:n6 X (dZ d) r)(g:PE X a ta)(h:PE X b tb)(i:jP d b=false:=by exact C4 _):PT X (.Compare a [d] [b] pos) (bX (aJ r ta tb)):=Ar f g h i
theorem DX{d:CmpOp}{r:R2}(f:n6 X (dZ d) r)(g:PE X a ta)(h:PE X b tb)(i:jP d b=false:=by exact C4 _):PE X (.Compare a [d] [b] pos) (aJ r ta tb):=Aw f g h i
theorem tci{d:CmpOp}{r:R2}(f:n6 X (dZ d) r)(g:PE X a ta)(h:PE X b tb)(i:jP d b=false:=by with_unfolding_all rfl):PT X (.Compare a [d] [b] pos) (bX (aJ r ta tb)):=Ar f g h i
theorem eci{d:CmpOp}{r:R2}(f:n6 X (dZ d) r)(g:PE X a ta)(h:PE X b tb)(i:jP d b=false:=by with_unfolding_all rfl):PE X (.Compare a [d] [b] pos) (aJ r ta tb):=Aw f g h i
theorem qB{id:String}{r:List V->Hp->VK->Prop}(g:fq X (.builtin id) r)(h:X.mg x=none)(i:gZ x=some (.builtin id))(j:PA X (e::es) t)(l:Gl X x:=by rfl)(n:x≠"__name__":=by decide)(d:(x==("__debug__":Str))=false:=by decide)
  (q:aq (e::es) X.env=(false,eval e X.env)::aq es X.env:=by rfl) (f:(backTo pos (aq es X.env)).any (·.1)=false:=by rfl):PE X (.Call (.Name x p) (e::es) [] pos) (db r t):=wZ g l h i j n d q f
theorem qL(f:X.calm=true)(g:X.mg "list"=none)(h:PA X (e::es) t)(i:Gl X "list":=by rfl)
  (j:aq (e::es) X.env=(false,eval e X.env)::aq es X.env:=by rfl) (d:(backTo pos (aq es X.env)).any (·.1)=false:=by rfl):PE X (.Call (.Name "list" p) (e::es) [] pos) (db (dU X.K) t):=jh (zk f) i g mD h (by decide) (by decide) j d
theorem ql(f:X.mg "len"=none)(g:PA X (e::es) t)(h:Gl X "len":=by rfl)
  (i:aq (e::es) X.env=(false,eval e X.env)::aq es X.env:=by rfl) (d:(backTo pos (aq es X.env)).any (·.1)=false:=by rfl):PE X (.Call (.Name "len" p) (e::es) [] pos) (db (f8 X.K) t):=wZ BP h f PySem.boot_len g (by decide) (by decide) i d
theorem qs(i:Nat){d:Pos}(f:X.N.Nodup)(g:PE X e te)(hi:X.N[i]?=some x:=by rfl)(hx:Loc X.env.scope x:=by first|exact Or.inl rfl|exact Or.inr rfl)(h:jX e (some (.Name x d)) pos.line X.env=pure false:=by rfl)(hf:X.fn x=true∨X.env.scope.names.lookup x=some .local:=by first|exact .inl rfl|exact .inr rfl|assumption):
  PS X (.Assign [.Name x d] e pos) (a_ te (cT i)):=CN f hi hx g h hf
theorem gn(i:Nat)(d:X.N.Nodup)(hi:X.N[i]?=some x:=by rfl)(hx:Loc X.env.scope x:=by first|exact Or.inl rfl|exact Or.inr rfl)(hf:X.fn x=true∨X.env.scope.names.lookup x=some .local:=by first|exact .inl rfl|exact .inr rfl|assumption):PG X (.Name x pos) (cT i):=At d hi hx hf
theorem gc(i:Nat)(d:X.N.Nodup:=by exact of_decide_eq_true (by with_unfolding_all rfl))(hi:X.N[i]?=some x:=by rfl)(hx:Loc X.env.scope x:=by exact Or.inl rfl)(hf:X.fn x=true∨X.env.scope.names.lookup x=some .local:=by first|exact .inl rfl|exact .inr rfl|assumption):PG X (.Name x pos) (cT i):=At d hi hx hf
theorem a1(d:PE X a ta)(f:aq [a] X.env=(false,eval a X.env)::aq [] X.env:=by rfl):PA X [a] (aG ta cv):=aO d bH f
theorem a2(f:PE X a ta)(g:PE X b tb)(h:aq [a,b] X.env=(false,eval a X.env)::aq [b] X.env:=by rfl)(d:aq [b] X.env=(false,eval b X.env)::aq [] X.env:=by rfl):PA X [a,b] (aG ta (aG tb cv)):=aO f (aO g bH d) h
theorem a3{c:Expr}{g:TE}(h:PE X a ta)(i:PE X b tb)(j:PE X c g)(l:aq [a,b,c] X.env=(false,eval a X.env)::aq [b,c] X.env:=by rfl)(d:aq [b,c] X.env=(false,eval b X.env)::aq [c] X.env:=by rfl)(f:aq [c] X.env=(false,eval c X.env)::aq [] X.env:=by rfl):PA X [a,b,c] (aG ta (aG tb (aG g cv))):=aO h (a2 i j d f) l
variable{elt iter tg:Expr}{ifs:List Expr}{scope:Scope}{fi:List Nat}{wi:TI}{g:TG}{tc:TT}
theorem qc(hi:PI X tg iter wi)(n:BT k g)
  (h:∀C j d f ex l,PG (c6 X (Fs tg++fi.map fun i=>X.N.getD i "") scope C j d f ex l) tg g/\FV (c6 X (Fs tg++fi.map fun i=>X.N.getD i "") scope C j d f ex l) ifs tc/\PE (c6 X (Fs tg++fi.map fun i=>X.N.getD i "") scope C j d f ex l) elt te)
  (q:k_ X.env.scope scope k (Fs tg++fi.map fun i=>X.N.getD i "") X.N fi=true:=by with_unfolding_all rfl) (r:X.calm=true:=by rfl)
  (s:∀x,tL iter X.env x=pure x:=by intro _;rfl):PE X (.ListComp elt [⟨tg,iter,ifs,0⟩] scope pos) (gF k fi wi g tc te) :=
 EQ q r hi (fun _ _ _ _ _ _=>(h _ _ _ _ _ _).1) n (fun _ _ _ _ _ _=>(h _ _ _ _ _ _).2.1) (fun _ _ _ _ _ _=>(h _ _ _ _ _ _).2.2) s
theorem qsc(j:Nat){y:Str}{l s:Pos}(u:X.N.Nodup)(hi:PI X tg iter wi)(v:BT k g)
  (h:∀C n d f ex q,PG (c6 X (Fs tg++fi.map fun i=>X.N.getD i "") scope C n d f ex q) tg g/\FV (c6 X (Fs tg++fi.map fun i=>X.N.getD i "") scope C n d f ex q) ifs tc/\PE (c6 X (Fs tg++fi.map fun i=>X.N.getD i "") scope C n d f ex q) elt te)
  (w:X.N[j]?=some y:=by rfl) (z:Loc X.env.scope y:=by first|exact Or.inl rfl|exact Or.inr rfl)
  (A:k_ X.env.scope scope k (Fs tg++fi.map fun i=>X.N.getD i "") X.N fi=true:=by with_unfolding_all rfl) (B:X.calm=true:=by rfl)
  (r:jX (.ListComp elt [⟨tg,iter,ifs,0⟩] scope pos) (some (.Name y s)) l.line X.env=pure true:=by rfl)
  (D:∀x,tL iter X.env x=pure x:=by intro _;rfl) (hf:X.fn y=true∨X.env.scope.names.lookup y=some .local:=by first|exact .inl rfl|exact .inr rfl|assumption) :
  PS X (.Assign [.Name y s] (.ListComp elt [⟨tg,iter,ifs,0⟩] scope pos) l) (a_ (gF k fi wi g tc te) (cT j)) :=
 yI u w z A B hi (fun _ _ _ _ _ _=>(h _ _ _ _ _ _).1) v (fun _ _ _ _ _ _=>(h _ _ _ _ _ _).2.1) (fun _ _ _ _ _ _=>(h _ _ _ _ _ _).2.2) r D hf
end
end L2
end

section
set_option Elab.async false
set_option linter.all false
set_option maxRecDepth 100000
namespace L2
open PySem PySem.Spec PyProof.Rows
theorem Gy{k:dg}{v:Value}(h:dq k v=true):RelV (kV k) v:=by
 rcases ax h with⟨i,t,rfl,rfl⟩|⟨i,t,rfl,rfl⟩
 ·exact⟨t,rfl⟩
 ·exact⟨t,rfl⟩
theorem ui{α β:Type}{F:α->β->Prop}{d:List α}{e:List β}(g:Paired F d e){i:Nat}{a:α}{b:β}(h:d[i]?=some a)(f:e[i]?=some b):F a b:=by
 induction g generalizing i with
 |nil=>cases h
 |cons r _ j =>
  cases i with
  |zero=>injection h with h;injection f with f;subst h f;exact r
  |succ i=>exact j h f
theorem xE{P:aU}{w:World}{K:Za}{H:Hp}{h:Heap}{d:Addr}{o:Obj}{a:List (dg×V)}{k:Array fF}{n:Nat}(l:jp P w K H h)(e:H d=some (.frz o (.dK a)))(p:o.data=.dict k n):
  (d==d4)=false/\∃j,KV a j/\h.DictAt (bv P w) d j n:=by
 obtain⟨g,_,f,j,m,s⟩:=(show aZ P w K H h d (.frz o (.dK a))from l d _ e);obtain⟨t,v,x,i,u,q,r⟩:=s.dictAt;rw[g]at i;cases i;rw[p]at q;cases q;exact⟨f,j,m,o,_,g,u,p,r⟩
theorem Do{P:aU}{w:World}{K:Za}{H:Hp}{h:Heap}{d:Addr}{o:Obj}{e:List (dg×V)}(x:aZ P w K H h d (.frz o (.dK e))):∃f i,o.data=.dict f i:=by
 obtain⟨g,_,_,m,_,j⟩:=x;obtain⟨k,n,p,a,q,l,r⟩:=j.dictAt;rw[g]at a;cases a;exact⟨_,_,l⟩
structure mF(h:Heap)(d:Addr)(es:Array fF)(ep:Nat):Prop where
 ex:∃o,h.get? d=some o/\o.ExactDict/\o.data=.dict es ep
section
variable{prog:aU}{w:World}{A:Around}{E:Zc}{s:Shared}{d v it:Addr}{es:Array fF}{ep i:Nat}
theorem mF.ty(h:mF s.heap d es ep):s.TypeIs (.ref d) "dict":=let⟨o,a,e,_⟩:=h.ex;⟨o,a,e.1⟩
theorem Bh{Q:Zc}(h:mF s.heap d es ep)(a:(d==d4)=false)(q:Q (.ref s.heap.objs.size) { s with heap:=s.heap.push { cls:=.type "dict_items",data:=.fields #[.ref d] } }):
  wpAny (model prog w) A (call (.builtin "dict.items") [.ref d]) Q E s:=by
 refine lm F.slot_dict_items h.ty F.entry_dict_items ?_ (F.args_dict_items_1 _);unfold aS.«dict.items» aS.Dict.noArgs;refine ac <| ac <| uW h.ty <| ?_;refine ak (show wpAny _ _ (uQ d >>= _) _ _ s from ?_);unfold uQ;rw[if_neg (fun z=>by rw[a]at z;cases z)];exact ac <| ak <| ac <| gm <| ak ⟨_,rfl,q⟩
theorem CB{Q:Zc}(f:s.heap.IsItemsView v d)(h:mF s.heap d es ep)
  (q:∀g,g7 g s.heap.objs.size d 0 es.size ep .none .none->(∀b o,s.heap.get? b=some o->g.get? b=some o)->Q (.ref s.heap.objs.size) { s with heap:=g }):wpAny (model prog w) A (pyIter (.ref v)) Q E s:=by
 obtain⟨n,j,m,k⟩:=id f;obtain⟨o,l,hx,a⟩:=h.ex;refine wpAny_pyIter_slot f.typeIs F.slot_dict_items_iter <| lm F.slot_dict_items_iter f.typeIs F.entry_dict_items_iter ?_ (F.args_dict_items_iter_1 _);unfold aS.«dict_items.__iter__» aS.Dict_items.dictOf aS.Dict_items.newIterator;refine ac <| ak <| ac <| ac <| be j k (x:=.ref d) rfl <| ak <| ac <| ac <| lT l a <| ac <| ow l a ?_;simp only[show oq "dict_itemiterator"=true by decide,if_true];refine gm (ak ⟨_,rfl,"dict_itemiterator",_,⟨_,bF _ rfl,rfl⟩,qM.lookup,?_⟩) ?_
 ·refine q _ ?_ fun b o e=>aF _ e;simpa[rawInt,g7,aS.Dict_items.ownedTupleFields]using bF s.heap (o:={ cls:=.type "dict_itemiterator",data:=.fields #[.none,.bool false,.ref d,.int 0 0,.int es.size 0,.int ep 0,.none,.none] }) rfl
 ·simp only[sizeOk,aS.Dict_items.ownedTupleFields,bt,aL,dj,rm,zS];omega
theorem CA{ok n:Value}{Q:Option Value->Shared->Prop}(a:g7 s.heap it d i es.size ep ok n)(h:mF s.heap d es ep)(hi:i<es.size)
  (q:∀p,IsItemIterOut p it d (i+1) es.size ep es[i].key es[i].val s.heap.objs.size->p.get? s.heap.objs.size=some { cls:=.type "tuple",data:=.seq #[es[i].key,es[i].val] } ->
   (∀b o,b≠it->s.heap.get? b=some o->p.get? b=some o)->Q (some (.ref s.heap.objs.size)) { s with heap:=p }):wpAny (model prog w) A (pyNext (.ref it)) Q E s:=by
 obtain⟨o,U,hx,l⟩:=h.ex;obtain⟨f,g,u,tk,os⟩:=s;have ty:∀{p:Heap}{ok n:Value}{j:Nat},g7 p it d j es.size ep ok n->Shared.TypeIs ⟨p,g,u,tk,os⟩ (.ref it) "dict_itemiterator":=fun x=>⟨_,x,rfl⟩;have r:=ty a;have D:oq "dict_itemiterator"=true:=by decide
 unfold pyNext;refine ac <| iQ <| iT (name:=hG "__next__") r qM <| lm qM r F.entry_dict_itemiterator_next ?_ (F.args_dict_itemiterator_next_1 _);refine ac <| ak <| ac <| ac ?_
 first|refine ac <| uP r <| ak ?_|refine ac <| uO r <| ak ?_
 refine ac <| uN a rfl ?_;simp only[D,if_true];show wpAny _ _ (if(Value.ref d==Value.none)=true then _ else _) _ _ _
 rw[if_neg (show ¬((Value.ref d==Value.none)=true)from fX)];refine ac <| ak <| ac <| lT U l ?_;rw[if_neg (by simp)];refine ac <| ak <| ac <| ow U l ?_;rw[if_neg (by simp)];refine ak ?_;simp only[show ¬((i:Int)<0)from by omega,if_false,eW,iN hi];refine ac ?_
 first|refine ac <| uP r <| ak ?_|refine ac <| uO r <| ak ?_
 refine ac <| wpAny_isOneOf_itemiter r ?_;show wpAny _ _ (qN (.ref it) 3 (rawInt ((i:Int)+1)) >>= _) _ _ ⟨f,g,u,tk,os⟩;refine ac <| gk a (by simp) fun m y B=>?_;have B:dP it f m:=B;have y:g7 m it d (i+1) es.size ep ok n:=by
  have z:((i+1:Nat):Int)=(i:Int)+1:=by omega
  unfold g7;rw[z];simpa[rawInt]using y
 have Y:=ty y;refine ac <| fz <| ac <| wpAny_isOneOf_itemiter Y <| ac <| wpAny_isOneOf_itemiter Y ?_;show wpAny _ _ (aS.Dict_items.pairFromOwner (.ref it) 6 es[i].key es[i].val) _ _ ⟨m,g,u,tk,os⟩;unfold aS.Dict_items.pairFromOwner;refine ac <| wpAny_newTuple ?_;have t:g7 (m.push { cls:=.type "tuple",data:=.seq #[es[i].key,es[i].val] }) it d (i+1) es.size ep ok n:=aF _ y;have z1:m.objs.size=f.objs.size:=B.1;have t2:(m.push { cls:=.type "tuple",data:=.seq #[es[i].key,es[i].val] }).get? f.objs.size=some { cls:=.type "tuple",data:=.seq #[es[i].key,es[i].val] }:=by rw[<-z1];exact bF _ rfl
 have k2:∀b o,b≠it->f.get? b=some o->(m.push { cls:=.type "tuple",data:=.seq #[es[i].key,es[i].val] }).get? b=some o:=fun b o k e=>aF _ (B.extBut b o k e);rw[z1];generalize m.push { cls:=.type "tuple",data:=.seq #[es[i].key,es[i].val] }=G at t t2 k2;show wpAny _ _ (aS.Dict_items.ownedTupleIsFree (.ref it) >>= _) _ _ ⟨G,g,u,tk,os⟩;have lt:it<f.objs.size:=ar a;have ne:f.objs.size≠it:=cI lt;refine ac ?_;unfold aS.Dict_items.ownedTupleIsFree;refine ac <| be t rfl (x:=.none) rfl <| ak ?_;simp only[if_true];refine ac <| be t rfl (x:=ok) rfl <| ac <| be t rfl (x:=n) rfl <| ac <| gk t (by simp) fun H I s3=>?_;have s3:dP it G H:=s3;have I:g7 H it d (i+1) es.size ep es[i].key n:=I;refine ac <| gk I (by simp) fun J L s4=>?_;have s4:dP it H J:=s4;have L:g7 J it d (i+1) es.size ep es[i].key es[i].val:=L;refine ac <| gk L (by simp) fun M N s5=>?_;have s5:dP it J M:=s5;have N:IsItemIterOut M it d (i+1) es.size ep es[i].key es[i].val f.objs.size:=N;refine ac <| gk N (by simp) fun C O T=>?_;have T:dP it M C:=T;have O:IsItemIterOut C it d (i+1) es.size ep es[i].key es[i].val f.objs.size:=O;have up:∀b o,b≠it->G.get? b=some o->C.get? b=some o:=fun b o k e=>T.extBut b o k <| s5.extBut b o k <| s4.extBut b o k <| s3.extBut b o k e;exact ac <| oz <| ak <| ak ⟨_,rfl,ak <| q C O (up _ _ ne t2) fun b o k e=>up b o k (k2 b o k e)⟩
theorem EA{ok n:Value}{Q:Option Value->Shared->Prop}(p:A.handled=none)(f:g7 s.heap it d i es.size ep ok n)(h:mF s.heap d es ep)(hi:es.size<=i)
  (q:∀k,Heap.ExtBut it s.heap k->Q none { s with heap:=k }):wpAny (model prog w) A (pyNext (.ref it)) Q E s:=by
 obtain⟨o,l,hx,e⟩:=h.ex;have g:s.TypeIs (.ref it) "dict_itemiterator":=⟨_,f,rfl⟩;have j:oq "dict_itemiterator"=true:=by decide
 unfold pyNext;refine ac <| iQ <| iT (name:=hG "__next__") g qM <| lm qM g F.entry_dict_itemiterator_next ?_ (F.args_dict_itemiterator_next_1 _);refine ac <| ak <| ac <| ac ?_
 first|refine ac <| uP g <| ak ?_|refine ac <| uO g <| ak ?_
 refine ac <| uN f rfl ?_;simp only[j,if_true];show wpAny _ _ (if(Value.ref d==Value.none)=true then _ else _) _ _ _
 rw[if_neg (show ¬((Value.ref d==Value.none)=true)from fX)];refine ac <| ak <| ac <| lT l e ?_;rw[if_neg (by simp)];refine ac <| ak <| ac <| ow l e ?_;rw[if_neg (by simp)];refine ak ?_;simp only[show ¬((i:Int)<0)from by omega,if_false,eW,oo hi];refine ac ?_
 first|refine ac <| uP g <| ak ?_|refine ac <| uO g <| ak ?_
 show wpAny _ _ (qN (.ref it) 2 .none >>= _) _ _ s;refine ac <| iS f rfl (by simp) ?_;show wpAny _ _ (newExc (.type "StopIteration") [] >>= _) _ _ _;refine ac ?_;simp only[newExc,newTuple];refine ac <| gm ?_ (by size_fits);refine ac (m:=oA _ _) <| wpAny_of_eq (a:=Value.none) (by first|rfl|(simp only[oA];rfl)) <| gm ?_ (by size_fits)
 simp only[raiseNew];refine ac <| wpAny_handled ?_;rw[show A.in1.handled=none from p];refine ac <| ak <| wpAny_throw ?_;refine ac (tQ (b:=true) (T:="StopIteration") ⟨_,bF _ rfl,rfl⟩ uZ (ak (q _ (((j6 ..).extBut.push _).push _))))
end
def Fo(d:Addr)(o:Obj)(u:HO)(n:Nat)(ent:Nat->Hp->V->V->Prop):It :=
 ⟨fun i H=>H d=some (.frz o u)/\i<n,fun i H x H'=>∃p a b,H p=none/\x=.ref p/\ent i H a b/\H'=upd H p (.tup [a,b]),fun i H=>H d=some (.frz o u)/\n<=i⟩
structure zO(P:aU)(w:World)(K:Za)(d:Addr)(o:Obj)(u:HO)(n:Nat)(ent:Nat->Hp->V->V->Prop)(es:Array fF)(ep:Nat):Prop where
 ex:o.ExactDict
 dat:o.data=.dict es ep
 sz:es.size=n
 get:∀{H:Hp}{h:Heap}{i:Nat}(hi:i<es.size),jp P w K H h->H d=some (.frz o u)->∃a b,ent i H a b/\RelV a es[i].key/\RelV b es[i].val
theorem ya{P:aU}{w:World}{K:Za}{xs:List Expr}{kx:Nat}{J7:Pos}{d it:Addr}{o:Obj}{u:HO}{n:Nat}{r:Nat->Hp->V->V->Prop}{m:Array fF}{ep:Nat}(f:zO P w K d o u n r m ep):
  pY P w K (.Tuple xs kx J7) (Fo d o u n r) [it] it (fun i h=>∃ok p,g7 h it d i n ep ok p) where
 mem:=by simp
 obj:=fun i h ⟨ok,p,st⟩ b l=>by
  have e:b=it:=by simpa using l
  subst e;exact⟨_,st,fun v z=>by cases z⟩
 keep:=fun i h B ⟨ok,p,st⟩ k=>⟨ok,p,k it (by simp) _ st⟩
 item:=by
  intro X D G J hc i J2 s σ H E I hf ⟨ok,p,st⟩ L;subst D G J;obtain⟨C,hi⟩:=L;have t:i<m.size:=by rw[f.sz];exact hi
  obtain⟨g,ou⟩:=(show aZ X.prog X.w X.K H s.heap d (.frz o u)from I.hok d _ C);obtain⟨a,b,en,ra,rb⟩:=f.get t I.hok C;obtain⟨M,f1,f2,f3,f4,f5⟩:=hf it (by simp);rw[<-f.sz]at st;refine CA st ⟨o,g,f.ex,f.dat⟩ t fun B N O Q=>?_;refine⟨_,rfl,wpAny_letOwnedTupleGo_items (s:={ s with heap:=B }) N fun T U Y=>?_⟩;have j:dP it B T:=Y;have x:s.heap.objs.size≠it:=cI (ar st);have y:T.get? s.heap.objs.size=some { cls:=.type "tuple",data:=.seq #[m[i].key,m[i].val] }:=j.extBut _ _ x O;have ab:H s.heap.objs.size=none:=I.fresh;have I2:Inv X J2 σ (upd H s.heap.objs.size (.tup [a,b])) { s with heap:=T,toks:=s.toks }:=by
   refine I.turnedNew (ch:=[it]) hf (fun c o l q=>?_) ⟨_,y⟩ (fun _ z=>nomatch z) ⟨by show 2<=aj;decide,[m[i].key,m[i].val],.cons ra (.cons rb .nil),⟨_,y,rfl,_,rfl⟩⟩;have A:c≠it:=fun z=>l (by simp[z]);exact j.extBut _ _ A (Q c o A q)
  refine⟨.ref s.heap.objs.size,_,I2,rfl,⟨_,a,b,ab,rfl,en,rfl⟩,⟨_,_,by rw[<-f.sz];exact U⟩,fun c l=>?_⟩;have e:c=it:=by simpa using l
  subst e;rw[ah (br x)];exact M
 done:=by
  intro X D G J hc i J2 s σ H E I hf ⟨ok,p,st⟩ L;subst D G J;obtain⟨C,hi⟩:=L;obtain⟨g,ou⟩:=(show aZ X.prog X.w X.K H s.heap d (.frz o u)from I.hok d _ C);obtain⟨M,f1,f2,f3,f4,f5⟩:=hf it (by simp);rw[<-f.sz]at st;exact EA (I.ok.hd hc) st ⟨o,g,f.ex,f.dat⟩ (by rw[f.sz];exact hi) fun B eb=>⟨rfl,I.turned (t':=s.toks) (fun b o l e=>eb b o l e) M f1 f3 f4 f5⟩
 self:=fun _ _ _ _ _ ⟨_,_,st⟩ h=>PySem.W.kcp_self st h
def BJ(K:Za)(kvs:List (TK×V)):Nat->Hp->V->V->Prop:=fun i H a b=>∃k,kvs[i]?=some (k,b)/\pd K H k a
def GF(kvs:List (dg×V)):Nat->Hp->V->V->Prop:=fun i _ a b=>∃k,kvs[i]?=some (k,b)/\a=kV k
theorem kZ{P:aU}{w:World}{K:Za}{H:Hp}{h:Heap}{d:Addr}{o:Obj}{f:List (TK×V)}(s:jp P w K H h)(e:H d=some (.frz o (.dT f))):
  (d==d4)=false/\∃es t,zO P w K d o (.dT f) f.length (BJ K f) es t:=by
 obtain⟨g,z,n,xs,u,U,es,t,p,ex,y,v,Y⟩:=(show aZ P w K H h d (.frz o (.dT f))from s d _ e);rw[g]at p;cases p;have D:es.size=xs.length:=by rw[<-lJ,v,ao]
 refine⟨n,es,t,ex,y,by rw[D,Paired.length u],fun{E G i} hi q I=>?_⟩;obtain⟨J,z',x,xs',j,L,M,N,k,O,r,l,Q⟩:=(show aZ P w K E G d (.frz o (.dT f))from q d _ I);rw[J]at k;cases k;rw[y]at r;cases r;have T:es.size=xs'.length:=by rw[<-lJ,l,ao]
 have m:i<xs'.length:=by omega
 have A:i<f.length:=by rw[Paired.length j];exact m
 have B:=ui j (i:=i) (a:=f[i]) (b:=xs'[i]) (by simp[A]) (by simp[m]);have C:es[i]=entryOfKey (d6 P w) xs'[i]:=by
  have:es.toList[i]?=some es[i]:=by simp[hi]
  rw[l,cX,bZ m]at this;injection this with this;exact this.symm
 refine⟨.ref xs'[i].2.1,f[i].2,⟨f[i].1,by simp[A],B.2.1⟩,?_,?_⟩
 ·rw[C];exact rfl
 ·rw[C];exact B.2.2.2
theorem k4{P:aU}{w:World}{K:Za}{H:Hp}{h:Heap}{d:Addr}{o:Obj}{f:List (dg×V)}(hok:jp P w K H h)(e:H d=some (.frz o (.dK f))):
  (d==d4)=false/\∃es s,zO P w K d o (.dK f) f.length (GF f) es s:=by
 obtain⟨es,s,p⟩:=Do (hok d _ e);obtain⟨q,Y,t,o',u,r,ex,j,C,D,nd⟩:=xE hok e p;have g:=(show aZ P w K H h d (.frz o (.dK f))from hok d _ e).1;rw[g]at r;cases r;rw[p]at j;cases j;have E:es.size=f.length:=by rw[t.length,<-D.length];simp
 refine⟨q,es,s,ex,p,E,fun{G I i} hi l z=>?_⟩;obtain⟨v,k,m,J,u,n,L,j,A,x,M⟩:=xE l z p;have N:=(show aZ P w K G I d (.frz o (.dK f))from l d _ z).1;rw[N]at n;cases n;rw[p]at j;cases j;have y:i<f.length:=by omega
 have B:i<k.length:=by rw[<-m.length];exact y
 obtain⟨O,Q⟩:=x.get? (e:=es[i]) (by simp[hi]) (show k[i]?=some (k[i].1,k[i].2) by simp[B]);obtain⟨T,U⟩:=ui m (i:=i) (a:=f[i]) (b:=k[i]) (by simp[y]) (by simp[B]);refine⟨kV f[i].1,f[i].2,⟨f[i].1,by simp[y],rfl⟩,Gy (by rw[T];exact O),?_⟩;rw[Q];exact U
def AK(K:Za)(tl:TE):TI:=fun σ H R=>tl σ H fun x H1=>∃d kvs,x=.ref d /\
 ((H1 d=some (.dT kvs)/\∀o,R (Fo d o (.dT kvs) kvs.length (BJ K kvs)) (upd H1 d (.frz o (.dT kvs))))∨∃o,H1 d=some (.frz o (.dT kvs))/\R (Fo d o (.dT kvs) kvs.length (BJ K kvs)) H1)
def AL(tl:TE):TI:=fun σ H R=>tl σ H fun x H1=>∃d kvs,x=.ref d /\
 ((H1 d=some (.dK kvs)/\∀o,R (Fo d o (.dK kvs) kvs.length (GF kvs)) (upd H1 d (.frz o (.dK kvs))))∨∃o,H1 d=some (.frz o (.dK kvs))/\R (Fo d o (.dK kvs) kvs.length (GF kvs)) H1)
section
variable{X:Cx}{J2:Zd}{σ:St}{l:Expr}{tl:TE}{J4 J3 J7:Pos}{xs:List Expr}{kx:Nat}
theorem jG{R:It->Hp->Prop}{h:Hp}{s1:Shared}{d:Addr}{o:Obj}{u:HO}{n:Nat}{i:Nat->Hp->V->V->Prop}{r:Array fF}{t:Nat}(f:zO X.prog X.w X.K d o u n i r t)(j:(d==d4)=false)(m:Inv X J2 σ h s1)(e:h d=some (.frz o u))(q:R (Fo d o u n i) h):
  MethodOn X.prog X.w X.A "items" J3 (.ref d) [] (fun v x=>wpAny (model X.prog X.w) X.A (pyIter v) (HW X J2 σ (.Tuple xs kx J7) R) X.xe x) X.xe s1:=by
 obtain⟨g,_⟩:=(show aZ X.prog X.w X.K h s1.heap d (.frz o u)from m.hok d _ e);have k:mF s1.heap d r t:=⟨o,g,f.ex,f.dat⟩;refine⟨"dict","dict.items",F.plainAttrs_dict,F.slot_dict_items,F.type_dict_items,k.ty,fun a z=>?_,lW rfl (vc (Bh k j ?_))⟩
 ·cases z;exact⟨o,g,f.ex.2.1⟩
 refine CB (s:={ s1 with heap:=s1.heap.push { cls:=.type "dict_items",data:=.fields #[.ref d] } }) ⟨_,bF _ rfl,rfl,rfl⟩ ⟨o,aF _ g,f.ex,f.dat⟩ fun y p B=>?_;have C:Inv X J2 σ h { s1 with heap:=y,toks:=s1.toks }:=m.kept (t':=s1.toks) fun b o e=>B b o (aF _ e);refine⟨_,[_],_,_,h,rfl,C,ya f,⟨_,_,by rw[<-f.sz];exact p⟩,fun b D=>?_,q⟩;have e:b=(s1.heap.push { cls:=.type "dict_items",data:=.fields #[.ref d] }).objs.size:=by simpa using D
 subst e;have z:s1.heap.objs.size<=(s1.heap.push { cls:=.type "dict_items",data:=.fields #[.ref d] }).objs.size:=by rw[gD];exact iW _
 exact m.fpOk z (m.hok.fresh z)
theorem Bl(G:PE X l tl)(g:jW l "items" X.env (eval l X.env)=eval l X.env:=by rfl)(i:(J4.endLine==J3.line)=true:=by rfl):PI X (.Tuple xs kx J7) (.Call (.Attribute l "items" J4) [] [] J3) (AK X.K tl):=by
 intro J2 s σ H R I h;refine rp g i (bY (G J2 s σ H _ I h) fun v s1 n=>?_);obtain⟨x,t,m,J,d,j,ex,q⟩:=n;subst ex;cases J;rcases q with⟨e,q⟩|⟨o,e,q⟩
 ·obtain⟨z,k,xs',u,o,L,M,y,r⟩:=id (show aZ X.prog X.w X.K t s1.heap d (.dT j)from m.hok d _ e);have E:Inv X J2 σ (upd t d (.frz o (.dT j))) { s1 with heap:=s1.heap,toks:=s1.toks } :=
   m.write (x:=d) (e:=d) (t':=s1.toks) (by rw[e];trivial) (.inl rfl) (fun _ _ _ q=>q) ⟨o,y⟩ ⟨y,z,k,xs',Paired.mapP u (fun p q r=>⟨r.1,pd.keeps (fun b N A=>by rw[ah (fun z=>by rw[z,e]at A;cases A)];exact A) 8 r.2.2.1 r.2.1,r.2.2⟩),o,L,M,y,r⟩
  obtain⟨f,B,C,D⟩:=kZ E.hok (aa (H:=t) (a:=d));exact jG D f E aa (q o)
 ·obtain⟨f,B,C,D⟩:=kZ m.hok e;exact jG D f m e q
theorem Bm(E:PE X l tl)(g:jW l "items" X.env (eval l X.env)=eval l X.env:=by rfl)(i:(J4.endLine==J3.line)=true:=by rfl):PI X (.Tuple xs kx J7) (.Call (.Attribute l "items" J4) [] [] J3) (AL tl):=by
 intro J2 s σ H R I h;refine rp g i (bY (E J2 s σ H _ I h) fun v s1 n=>?_);obtain⟨x,p,m,G,d,j,ex,q⟩:=n;subst ex;cases G;rcases q with⟨e,q⟩|⟨o,e,q⟩
 ·obtain⟨z,k,J,t,B⟩:=(show aZ X.prog X.w X.K p s1.heap d (.dK j)from m.hok d _ e);obtain⟨L,o,M,C,r⟩:=id B.dictAt;have D:Inv X J2 σ (upd p d (.frz o (.dK j))) { s1 with heap:=s1.heap,toks:=s1.toks } :=
   m.write (x:=d) (e:=d) (t':=s1.toks) (by rw[e];trivial) (.inl rfl) (fun _ _ _ q=>q) ⟨o,C⟩ ⟨C,z,k,J,t,B⟩
  obtain⟨f,u,y,A⟩:=k4 D.hok (aa (H:=p) (a:=d));exact jG A f D aa (q o)
 ·obtain⟨f,u,y,A⟩:=k4 m.hok e;exact jG A f m e q
end
section
variable{prog:aU}{w:World}{A:Around}{E:Zc}{s:Shared}{d v it:Addr}{es:Array fF}{ep i:Nat}
theorem rQ{Q:Zc}(h:mF s.heap d es ep)(a:(d==d4)=false)(q:Q (.ref s.heap.objs.size) { s with heap:=s.heap.push { cls:=.type "dict_values",data:=.fields #[.ref d] } }):
  wpAny (model prog w) A (call (.builtin "dict.values") [.ref d]) Q E s:=by
 refine lm F.slot_dict_values h.ty F.entry_dict_values ?_ (F.args_dict_values_1 _);refine ac ?_;unfold aS.Dict.noArgs;refine ac <| uW h.ty <| ?_;refine ak (show wpAny _ _ (uQ d >>= _) _ _ s from ?_);unfold uQ;rw[if_neg (fun z=>by rw[a]at z;cases z)];exact ac <| ak <| ac <| gm <| ak ⟨_,rfl,q⟩
theorem ud{Q:Zc}(f:s.heap.IsValuesView v d)(h:mF s.heap d es ep)
  (q:∀g,g.IsValIter s.heap.objs.size d 0 es.size ep->(∀b o,s.heap.get? b=some o->g.get? b=some o)->Q (.ref s.heap.objs.size) { s with heap:=g }):wpAny (model prog w) A (pyIter (.ref v)) Q E s:=by
 obtain⟨n,j,m,k⟩:=id f;obtain⟨o,l,hx,a⟩:=h.ex;refine wpAny_pyIter_slot f.typeIs F.slot_dict_values_iter <| lm F.slot_dict_values_iter f.typeIs F.entry_dict_values_iter ?_ (F.args_dict_values_iter_1 _);unfold aS.«dict_values.__iter__» aS.Dict_items.dictOf aS.Dict_items.newIterator;refine ac <| ak <| ac <| ac <| be j k (x:=.ref d) rfl <| ak <| ac <| ac <| lT l a <| ac <| ow l a ?_;simp only[show oq "dict_valueiterator"=false by decide,g_,if_false];refine gm (ak ⟨_,rfl,"dict_valueiterator",_,⟨_,bF _ rfl,rfl⟩,qK.lookup,?_⟩);exact q _ ⟨_,bF _ rfl,rfl,by simp[rawInt]⟩ fun b o e=>aF _ e
theorem uc{Q:Option Value->Shared->Prop}(j:s.heap.IsValIter it d i es.size ep)(h:mF s.heap d es ep)(hi:i<es.size)
  (q:∀k,k.IsValIter it d (i+1) es.size ep->dP it s.heap k->Q (some es[i].val) { s with heap:=k }):wpAny (model prog w) A (pyNext (.ref it)) Q E s:=by
 obtain⟨r,f,l,a⟩:=id j;obtain⟨o,m,hx,e⟩:=h.ex;have g:=j.typeIs;unfold pyNext;refine ac <| iQ <| iT (name:=hG "__next__") g qK <| lm qK g F.entry_dict_valueiterator_next ?_ (F.args_dict_valueiterator_next_1 _);refine ac <| ak <| ac <| ac ?_
 first|refine ac <| uM g <| ak ?_|refine ac <| uL g <| ak ?_
 refine ac <| uN f a ?_;simp only[show oq "dict_valueiterator"=false by decide,g_,if_false];show wpAny _ _ (if(Value.ref d==Value.none)=true then _ else _) _ _ _
 rw[if_neg (show ¬((Value.ref d==Value.none)=true)from fX)];refine ac <| ak <| ac <| lT m e ?_;rw[if_neg (by simp)];refine ac <| ak <| ac <| ow m e ?_;rw[if_neg (by simp)];refine ak ?_;simp only[show ¬((i:Int)<0)from by omega,if_false,eW,iN hi];refine ac ?_
 first|refine ac <| uM g <| ak ?_|refine ac <| uL g <| ak ?_
 refine ac <| wpAny_isOneOf_valiter g ?_;show wpAny _ _ (qN (.ref it) 1 (rawInt ((i:Int)+1)) >>= _) _ _ s;refine ac <| iS f a (by simp) ?_;have n:(s.heap.update it (fC (·.setIfInBounds 1 (rawInt ((i:Int)+1))))).IsValIter it d (i+1) es.size ep:=⟨_,eU _ f (oB (iR a _)),(Obj.cls_mapFields ..).trans l,by rw[iR a];simp[rawInt]⟩;have p:=Heap.IsValIter.typeIs (s:={ s with heap:=s.heap.update it (fC (·.setIfInBounds 1 (rawInt ((i:Int)+1)))) }) n;refine ac <| fz <| ac <| wpAny_isOneOf_valiter p <| ac <| wpAny_isOneOf_valiter p ?_;show wpAny _ _ (pure es[i].val) _ _ _;exact ak <| ak ⟨_,rfl,ak <| q _ n (j6 ..)⟩
theorem wX{Q:Option Value->Shared->Prop}(p:A.handled=none)(g:s.heap.IsValIter it d i es.size ep)(h:mF s.heap d es ep)(hi:es.size<=i)
  (q:∀l,Heap.ExtBut it s.heap l->Q none { s with heap:=l }):wpAny (model prog w) A (pyNext (.ref it)) Q E s:=by
 obtain⟨t,j,r,k⟩:=id g;obtain⟨o,n,hx,e⟩:=h.ex;have f:=g.typeIs;unfold pyNext;refine ac <| iQ <| iT (name:=hG "__next__") f qK <| lm qK f F.entry_dict_valueiterator_next ?_ (F.args_dict_valueiterator_next_1 _);refine ac <| ak <| ac <| ac ?_
 first|refine ac <| uM f <| ak ?_|refine ac <| uL f <| ak ?_
 refine ac <| uN j k ?_;simp only[show oq "dict_valueiterator"=false by decide,g_,if_false];show wpAny _ _ (if(Value.ref d==Value.none)=true then _ else _) _ _ _
 rw[if_neg (show ¬((Value.ref d==Value.none)=true)from fX)];refine ac <| ak <| ac <| lT n e ?_;rw[if_neg (by simp)];refine ac <| ak <| ac <| ow n e ?_;rw[if_neg (by simp)];refine ak ?_;simp only[show ¬((i:Int)<0)from by omega,if_false,eW,oo hi];refine ac ?_
 first|refine ac <| uM f <| ak ?_|refine ac <| uL f <| ak ?_
 show wpAny _ _ (qN (.ref it) 0 .none >>= _) _ _ s;refine ac <| iS j k (by simp) ?_;show wpAny _ _ (newExc (.type "StopIteration") [] >>= _) _ _ _;refine ac ?_;simp only[newExc,newTuple];refine ac <| gm ?_ (by size_fits);refine ac (m:=oA _ _) <| wpAny_of_eq (a:=Value.none) (by first|rfl|(simp only[oA];rfl)) <| gm ?_ (by size_fits)
 simp only[raiseNew];refine ac <| wpAny_handled ?_;rw[show A.in1.handled=none from p];refine ac <| ak <| wpAny_throw ?_;refine ac (tQ (b:=true) (T:="StopIteration") ⟨_,bF _ rfl,rfl⟩ uZ (ak (q _ (((j6 ..).extBut.push _).push _))))
end
def FW(d:Addr)(o:Obj)(u:HO)(n:Nat)(ent:Nat->Hp->V->V->Prop):It :=
 ⟨fun i H=>H d=some (.frz o u)/\i<n,fun i H x H'=>H'=H/\∃a,ent i H a x,fun i H=>H d=some (.frz o u)/\n<=i⟩
theorem wz{P:aU}{w:World}{K:Za}{Q:Expr}{d it:Addr}{o:Obj}{u:HO}{n:Nat}{l:Nat->Hp->V->V->Prop}{L:Array fF}{M:Nat}(f:zO P w K d o u n l L M):
  pY P w K Q (FW d o u n l) [it] it (fun i h=>h.IsValIter it d i n M) where
 mem:=by simp
 obj:=fun i h st b j=>by
  have e:b=it:=by simpa using j
  subst e;obtain⟨o,e,c,d⟩:=st;exact⟨o,e,fun v z=>by rw[d]at z;cases z⟩
 keep:=fun i h q st k=>st.at fun o e=>k it (by simp) o e
 item:=by
  intro X t x y N i O s σ H E I hf st A;subst t x y;obtain⟨r,hi⟩:=A;have m:i<L.size:=by rw[f.sz];exact hi
  obtain⟨g,T⟩:=(show aZ X.prog X.w X.K H s.heap d (.frz o u)from I.hok d _ r);obtain⟨a,b,U,ra,Y⟩:=f.get m I.hok r;obtain⟨B,C,f2,D,G,J⟩:=hf it (by simp);rw[<-f.sz]at st;refine uc st ⟨o,g,f.ex,f.dat⟩ m fun q p sb=>?_;have I1:Inv X O σ H { s with heap:=q }:=I.turned (t':=s.toks) (fun b o j e=>(sb.2 b j).trans e) B C D G J;obtain⟨oi,e,c,dd⟩:=id p;exact⟨_,rfl,uu (s:={ s with heap:=q }) e c dd (by decide) ⟨b,H,I1,Y,⟨rfl,a,U⟩,by rw[<-f.sz];exact p,fun b j=>(hf b j).1⟩⟩
 done:=by
  intro X t x y N i O s σ H E I hf st A;subst t x y;obtain⟨r,hi⟩:=A;obtain⟨g,T⟩:=(show aZ X.prog X.w X.K H s.heap d (.frz o u)from I.hok d _ r);obtain⟨B,C,f2,D,G,J⟩:=hf it (by simp);rw[<-f.sz]at st;exact wX (I.ok.hd N) st ⟨o,g,f.ex,f.dat⟩ (by rw[f.sz];exact hi) fun q eb=>⟨rfl,I.turned (t':=s.toks) (fun b o j e=>eb b o j e) B C D G J⟩
 self:=fun _ _ _ _ _ st h=>wpAny_pyIter_valiter st h
def Dh(K:Za)(tl:TE):TI:=fun σ H R=>tl σ H fun x H1=>∃d kvs,x=.ref d /\
 ((H1 d=some (.dT kvs)/\∀o,R (FW d o (.dT kvs) kvs.length (BJ K kvs)) (upd H1 d (.frz o (.dT kvs))))∨∃o,H1 d=some (.frz o (.dT kvs))/\R (FW d o (.dT kvs) kvs.length (BJ K kvs)) H1)
section
variable{X:Cx}{J2:Zd}{σ:St}{l tg:Expr}{tl:TE}{J4 J3:Pos}
theorem tT{R:It->Hp->Prop}{h:Hp}{s1:Shared}{d:Addr}{o:Obj}{u:HO}{n:Nat}{i:Nat->Hp->V->V->Prop}{r:Array fF}{t:Nat}(f:zO X.prog X.w X.K d o u n i r t)(j:(d==d4)=false)(m:Inv X J2 σ h s1)(e:h d=some (.frz o u))(q:R (FW d o u n i) h):
  MethodOn X.prog X.w X.A "values" J3 (.ref d) [] (fun v x=>wpAny (model X.prog X.w) X.A (pyIter v) (HW X J2 σ tg R) X.xe x) X.xe s1:=by
 obtain⟨g,_⟩:=(show aZ X.prog X.w X.K h s1.heap d (.frz o u)from m.hok d _ e);have k:mF s1.heap d r t:=⟨o,g,f.ex,f.dat⟩;refine⟨"dict","dict.values",F.plainAttrs_dict,F.slot_dict_values,F.type_dict_values,k.ty,fun a z=>?_,lW rfl (vc (rQ k j ?_))⟩
 ·cases z;exact⟨o,g,f.ex.2.1⟩
 refine ud (s:={ s1 with heap:=s1.heap.push { cls:=.type "dict_values",data:=.fields #[.ref d] } }) ⟨_,bF _ rfl,rfl,rfl⟩ ⟨o,aF _ g,f.ex,f.dat⟩ fun y p B=>?_;have C:Inv X J2 σ h { s1 with heap:=y,toks:=s1.toks }:=m.kept (t':=s1.toks) fun b o e=>B b o (aF _ e);refine⟨_,[_],_,_,h,rfl,C,wz f,by rw[<-f.sz];exact p,fun b D=>?_,q⟩;have e:b=(s1.heap.push { cls:=.type "dict_values",data:=.fields #[.ref d] }).objs.size:=by simpa using D
 subst e;have z:s1.heap.objs.size<=(s1.heap.push { cls:=.type "dict_values",data:=.fields #[.ref d] }).objs.size:=by rw[gD];exact iW _
 exact m.fpOk z (m.hok.fresh z)
theorem CT(G:PE X l tl)(g:jW l "values" X.env (eval l X.env)=eval l X.env:=by rfl)(i:(J4.endLine==J3.line)=true:=by rfl):PI X tg (.Call (.Attribute l "values" J4) [] [] J3) (Dh X.K tl):=by
 intro J2 s σ H R I h;refine rp g i (bY (G J2 s σ H _ I h) fun v s1 n=>?_);obtain⟨x,t,m,J,d,j,ex,q⟩:=n;subst ex;cases J;rcases q with⟨e,q⟩|⟨o,e,q⟩
 ·obtain⟨z,k,xs',u,o,L,M,y,r⟩:=id (show aZ X.prog X.w X.K t s1.heap d (.dT j)from m.hok d _ e);have E:Inv X J2 σ (upd t d (.frz o (.dT j))) { s1 with heap:=s1.heap,toks:=s1.toks } :=
   m.write (x:=d) (e:=d) (t':=s1.toks) (by rw[e];trivial) (.inl rfl) (fun _ _ _ q=>q) ⟨o,y⟩ ⟨y,z,k,xs',Paired.mapP u (fun p q r=>⟨r.1,pd.keeps (fun b N A=>by rw[ah (fun z=>by rw[z,e]at A;cases A)];exact A) 8 r.2.2.1 r.2.1,r.2.2⟩),o,L,M,y,r⟩
  obtain⟨f,B,C,D⟩:=kZ E.hok (aa (H:=t) (a:=d));exact tT D f E aa (q o)
 ·obtain⟨f,B,C,D⟩:=kZ m.hok e;exact tT D f m e q
end
theorem G9{f:aU}{w:World}{A:Around}{d it:Addr}{es:Array fF}{ep:Nat}(j:d≠it)(p:A.handled=none):
  Walks f w A it [it,d] [it] es.size (fun i v=>∃hi:i<es.size,v=es[i].val) (fun i h=>h.IsValIter it d i es.size ep/\mF h d es ep) where
 sub:=fun b a=>by simp at a;simp[a]
 frame:=fun i h g st k=>⟨st.1.at fun o e=>k it (by simp) o e,let⟨o,l,r⟩:=st.2.ex;⟨o,k d (by simp) o l,r⟩⟩
 item:=fun i s Q E hi st q=>uc st.1 st.2 hi fun g m n=>q _ g s.toks ⟨hi,rfl⟩ ⟨m,let⟨o,l,r⟩:=st.2.ex;⟨o,(n.2 d j).trans l,r⟩⟩ fun b o a e=>(n.2 b (fun z=>a (by simp[z]))).trans e
 done:=fun s Q E st q=>wX p st.1 st.2 (az _) fun g t=>q g s.toks fun b o a e=>t b o (fun z=>a (by simp[z])) e
 self:=fun i s Q E st q=>wpAny_pyIter_valiter st.1 q
def Ft(tl:TE):TE:=fun σ H Q=>tl σ H fun x H1=>∃d kvs val,x=.ref d/\(∀(i:Nat) (k:dg) (v:V),kvs[i]?=some (k,v)->v=.int (val i)) /\
 ((H1 d=some (.dK kvs)/\∀o,Q (.int (preSum val kvs.length)) (upd H1 d (.frz o (.dK kvs))))∨∃o,H1 d=some (.frz o (.dK kvs))/\Q (.int (preSum val kvs.length)) H1)
section
variable{X:Cx}{J2:Zd}{σ:St}{l:Expr}{tl:TE}{p pos J4 J3:Pos}
theorem wP{Q:VK}{h:Hp}{s1:Shared}{d:Addr}{o:Obj}{u:HO}{n:Nat}{k:Nat->Hp->V->V->Prop}{es:Array fF}{ep:Nat}{val:Nat->Int}(M:X.calm=true)(f:zO X.prog X.w X.K d o u n k es ep)(m:(d==d4)=false)(j:Inv X J2 σ h s1)(e:h d=some (.frz o u))(N:∀i a v,k i h a v->v=.int (val i))(q:Q (.int (preSum val n)) h):
  MethodOn X.prog X.w X.A "values" J3 (.ref d) [] (fun v O=>wpAny (model X.prog X.w) X.A (tO (backTo pos [])) (fun T U=>wpAny (model X.prog X.w) X.A (call (.builtin "sum") (v::T)) (EP X J2 σ Q) X.xe U) X.xe O) X.xe s1:=by
 obtain⟨g,_⟩:=(show aZ X.prog X.w X.K h s1.heap d (.frz o u)from j.hok d _ e);have r:mF s1.heap d es ep:=⟨o,g,f.ex,f.dat⟩;refine⟨"dict","dict.values",F.plainAttrs_dict,F.slot_dict_values,F.type_dict_values,r.ty,fun a z=>?_,lW rfl (vc (rQ r m ?_))⟩
 ·cases z;exact⟨o,g,f.ex.2.1⟩
 refine wl (call_sum_walkAnyS ?_);refine ud (s:={ s1 with heap:=s1.heap.push { cls:=.type "dict_values",data:=.fields #[.ref d] } }) ⟨_,bF _ rfl,rfl,rfl⟩ ⟨o,aF _ g,f.ex,f.dat⟩ fun h' x Y=>?_;have G:∀b o,s1.heap.get? b=some o->h'.get? b=some o:=fun b o e=>Y b o (aF _ e);have I3:Inv X J2 σ h { s1 with heap:=h',toks:=s1.toks }:=j.kept (t':=s1.toks) G;have z:s1.heap.objs.size<=(s1.heap.push { cls:=.type "dict_values",data:=.fields #[.ref d] }).objs.size:=by rw[gD];exact iW _
 have y:mF h' d es ep:=⟨o,G _ _ g,f.ex,f.dat⟩;have H:d≠(s1.heap.push { cls:=.type "dict_values",data:=.fields #[.ref d] }).objs.size:=bB (cb (ar g) z);have B:∀i v,(∃hi:i<es.size,v=es[i].val)->∃t,v=.int (val i) t:=by
  rintro i v ⟨hi,rfl⟩;obtain⟨a,b,en,ra,L⟩:=f.get hi j.hok e;rw[N i a b en]at L;exact L
 have lt:∀{b o},h'.get? b=some o->b<h'.objs.size:=fun e=>ar e;refine⟨_,_,_,_,_,_,_,val,rfl,(G9 (A:=X.A.in1) (es:=es) (ep:=ep) H (show X.A.in1.handled=none from j.ok.hd M)).toS,(⟨x,y⟩:_/\_),fun b hb=>?_,B,fun s' t' E=>?_⟩
 ·obtain⟨oi,ei,_⟩:=id x;rcases bA.1 hb with hb|hb
  ·rw[hb];exact lt ei
  ·rw[eT.1 hb];exact lt (G _ _ g)
 ·obtain⟨f0,f1,f2,f3,f4,f5⟩:=j.fpOk z (j.hok.fresh z);obtain⟨C,g',I,D,J⟩:=s';have e1:g'=s1.gens:=E.gens;have e2:I=s1.drawn:=E.drawn;have e3:J=s1.os:=E.os;subst e1 e2 e3;have I4:Inv X J2 σ h { s1 with heap:=C,toks:=D }:=I3.turned (h':=C) (t':=D) (fun b o hb e=>E.heap b o (fun z=>hb (by simpa using z)) e) f0 f1 f3 f4 f5;exact⟨.int (preSum val n),h,I4,⟨_,by rw[<-f.sz]⟩,q⟩
theorem EK(T:PE X l tl)(G:X.calm=true)(U:Gl X "sum")(Y:X.mg "sum"=none)(J:aq [.Call (.Attribute l "values" J4) [] [] J3] X.env=[(false,eval (.Call (.Attribute l "values" J4) [] [] J3) X.env)]:=by rfl)
  (g:jW l "values" X.env (eval l X.env)=eval l X.env:=by rfl) (j:(J4.endLine==J3.line)=true:=by rfl):PE X (.Call (.Name "sum" p) [.Call (.Attribute l "values" J4) [] [] J3] [] pos) (Ft tl):=by
 intro J2 s σ H Q I h;refine j_ (jE I U Y boot_sum ?_ (by decide) (by decide));refine PyProof.Rows.callWith_builtin1 ?_ J rfl;rw[J];show wpAny _ _ (tO ((false,eval (.Call (.Attribute l "values" J4) [] [] J3) X.env)::backTo pos [])) _ _ s;refine oK (rp g j (bY (T J2 s σ H _ I h) fun v s1 u=>?_));obtain⟨x,y,t,r1,d,m,val,ex,L,q⟩:=u;subst ex;cases r1;rcases q with⟨e,q⟩|⟨o,e,q⟩
 ·obtain⟨z,n,vs,A,M⟩:=(show aZ X.prog X.w X.K y s1.heap d (.dK m)from t.hok d _ e);obtain⟨ep,o,es,N,r⟩:=id M.dictAt;have O:Inv X J2 σ (upd y d (.frz o (.dK m))) { s1 with heap:=s1.heap,toks:=s1.toks } :=
   t.write (x:=d) (e:=d) (t':=s1.toks) (by rw[e];trivial) (.inl rfl) (fun _ _ _ q=>q) ⟨o,N⟩ ⟨N,z,n,vs,A,M⟩
  obtain⟨f,B,C,D⟩:=k4 O.hok (aa (H:=y) (a:=d));exact wP G D f O aa (fun i a v ⟨k,E,_⟩=>L i k v E) (q o)
 ·obtain⟨f,B,C,D⟩:=k4 t.hok e;exact wP G D f t e (fun i a v ⟨k,E,_⟩=>L i k v E) q
end
end L2
end

section
set_option Elab.async false
set_option linter.all false
set_option maxRecDepth 100000
namespace L2
open PySem PySem.Spec PyProof.Rows
end L2
end

section
set_option Elab.async false
set_option linter.all false
set_option maxRecDepth 100000
namespace HT
open PySem PySem.Spec PyProof.Rows
end HT
namespace L2
open PySem PySem.Spec PyProof.Rows
end L2
namespace HT
open PySem PySem.Spec PyProof.Rows
end HT
namespace L2
open PySem PySem.Spec PyProof.Rows
end L2
end

section
set_option Elab.async false
set_option linter.all false
set_option maxRecDepth 100000
namespace HT
open PySem PyProof.Rows
end HT
namespace L2
open PySem PySem.Spec PyProof.Rows
def wg(h:Heap)(z TI TO T:Addr):Prop:=∃b:Bool,h.get? z=some { cls:=.type "zip",dict:=none,data:=.fields #[rawInt T,.bool b,.bool false,.ref TI,.ref TO],slots:=#[] }
section
variable{prog:aU}{w:World}{A:Around}{E:Zc}{s:Shared}
theorem sT{a:Addr}{Q:Option Obj->Shared->Prop}(h:Q (s.heap.get? a) s):wpAny (model prog w) A (loadIfAlive a) Q E s:=fun Γ p _=>by
 unfold loadIfAlive;rw[Sem.wp_loadIfAlive];exact h
theorem uq{z TI TO T:Addr}{o:Obj}{Q:Bool->Shared->Prop}(a:wg s.heap z TI TO T)(h:s.heap.get? T=some o)
  (g:∀d,wg d z TI TO T->dP z s.heap d->Q false { s with heap:=d }):wpAny (model prog w) A (j5 (.ref z)) Q E s:=by
 obtain⟨b,a⟩:=a;unfold j5;refine ac (be a rfl (x:=rawInt T) rfl ?_);show wpAny _ _ (loadIfAlive ((T:Int).toNat) >>= _) _ _ _;refine ac (sT ?_);rw[eW,h];simp only[Option.isNone_some,g_,if_false];refine ac (be a rfl (x:=.bool b) rfl ?_);cases b with
 |true=>exact ak (g _ ⟨true,a⟩ (dP.refl ..))
 |false=>exact ac (gk a (by simp) fun d e f=>ak (g d ⟨true,e⟩ f))
theorem Bz{z TI TO T m n r t:Addr}{u B:Nat}{xs J:Array Value}{x y:Value}{o:Obj}{Q:Zc}(D:fE z TI TO m n r t)
  (L:wg s.heap z TI TO T) (U:s.heap.get? T=some o) (C:IsPair s.heap TI (.ref m) (.ref n))
  (Y:s.heap.IsListIter m r u) (h2:s.heap.IsListIter n t B) (G:s.heap.IsList r xs) (H:s.heap.IsList t J) (hx:xs[u]?=some x) (hy:J[B]?=some y)
  (hQ:∀g,wg g z TI TO T->g.IsListIter m r (u+1)->g.IsListIter n t (B+1)->IsPair g s.heap.objs.size x y->g.objs.size=s.heap.objs.size+1 ->
   (∀c o,c≠z->c≠m->c≠n->s.heap.get? c=some o->g.get? c=some o)->Q (.ref s.heap.objs.size) { s with heap:=g }) :
  wpAny (model prog w) A (aS.«zip.__next__» ⟨[.ref z],[]⟩) (fun I s'=>∃v,I=.done (.ret v)/\Q v s') E s:=by
 obtain⟨b,M⟩:=id L;show wpAny _ _ (field (.ref z) 2 >>= _) _ _ _;refine ac (be M rfl (x:=.bool false) rfl ?_);show wpAny _ _ (field (.ref z) 3 >>= _) _ _ _;refine ac (be M rfl (x:=.ref TI) rfl (ac (i9 C rfl ?_)));show wpAny _ _ (j5 (.ref z) >>= _) _ _ _;refine ac (uq L U fun N h a=>?_);simp only[g_,if_false];refine ac ?_;simp only[<-D2,lU,u6];refine ac (ac (fz ?_));show wpAny _ _ (gl (.ref m) >>= _) _ _ _;refine ac (wpAny_nextOf_list_item (Y.extBut a.extBut D.i1z) (G.extBut a.extBut D.l1z) hx fun O i d=>ak ?_);refine ak (ac (ac (fz ?_)));show wpAny _ _ (gl (.ref n) >>= _) _ _ _;refine ac (wpAny_nextOf_list_item ((h2.extBut a.extBut D.i2z).extBut d.extBut D.i12.symm) ((H.extBut a.extBut D.l2z).extBut d.extBut D.l2i1) hy fun p j f=>ak ?_);refine ak (ak ?_);have sz:p.objs.size=s.heap.objs.size:=by rw[f.1,d.1,a.1]
 refine ac (wpAny_newTuple (hsz:=by show 2<=aj;decide) ?_);obtain⟨q,k⟩:=h;have l:=f.extBut _ _ D.i2z.symm (d.extBut _ _ D.i1z.symm k);refine ak ⟨_,rfl,?_⟩;rw[sz];refine hQ _ ⟨q,aF _ l⟩ ((i.extBut f.extBut D.i12).at fun o e=>aF _ e) (j.at fun o e=>aF _ e) ?_ (by rw[gD,sz]) fun c o c1 c2 c3 e=>aF _ (f.extBut _ _ c3 (d.extBut _ _ c2 (a.extBut _ _ c1 e)));rw[<-sz];exact bF _ rfl
theorem C9{z TI TO T i j n p:Addr}{q r:Nat}{xs t:Array Value}{o:Obj}{Q:Fin->Shared->Prop}(J:A.handled=none)(D:fE z TI TO i j n p)
  (L:wg s.heap z TI TO T) (Y:s.heap.get? T=some o) (u:IsPair s.heap TI (.ref i) (.ref j))
  (M:s.heap.IsListIter i n q) (h2:s.heap.IsListIter j p r) (k:s.heap.IsList n xs) (v:s.heap.IsList p t) (l:xs[q]?=none∨t[r]?=none)
  (N:∀y e,(∀c o,c≠z->c≠i->c≠j->s.heap.get? c=some o->y.get? c=some o)->(∃o,y.get? e=some o/\o.cls=.type "StopIteration")->E (.ref e) { s with heap:=y }) :
  wpAny (model prog w) A (aS.«zip.__next__» ⟨[.ref z],[]⟩) Q E s:=by
 obtain⟨b,O⟩:=id L;show wpAny _ _ (field (.ref z) 2 >>= _) _ _ _;refine ac (be O rfl (x:=.bool false) rfl ?_);show wpAny _ _ (field (.ref z) 3 >>= _) _ _ _;refine ac (be O rfl (x:=.ref TI) rfl (ac (i9 u rfl ?_)));show wpAny _ _ (j5 (.ref z) >>= _) _ _ _;refine ac (uq L Y fun U B a=>?_);simp only[g_,if_false];refine ac ?_;simp only[<-D2,lU,u6];refine ac (ac (fz ?_));show wpAny _ _ (gl (.ref i) >>= _) _ _ _;cases hx:xs[q]? with
 |none=>exact ac (wpAny_nextOf_list_end J (M.extBut a.extBut D.i1z) (k.extBut a.extBut D.l1z) hx fun f e d C=>N f e (fun c o G H _ x=>d _ _ H (a.extBut _ _ G x)) C)
 |some x =>
  have hy:t[r]?=none:=by rcases l with h|h;rw[hx]at h;cases h;exact h
  refine ac (wpAny_nextOf_list_item (M.extBut a.extBut D.i1z) (k.extBut a.extBut D.l1z) hx fun f I d=>ak ?_);refine ak (ac (ac (fz ?_)));show wpAny _ _ (gl (.ref j) >>= _) _ _ _;exact ac (wpAny_nextOf_list_end J ((h2.extBut a.extBut D.i2z).extBut d.extBut D.i12.symm) ((v.extBut a.extBut D.l2z).extBut d.extBut D.l2i1) hy fun m e g C=>N m e (fun c o G H c3 x=>g _ _ c3 (d.extBut _ _ H (a.extBut _ _ G x))) C)
theorem Bx{z TI TO T d f g h:Addr}{i j:Nat}{xs n:Array Value}{x y:Value}{o:Obj}{Q:Option Value->Shared->Prop}(D:fE z TI TO d f g h)
  (p:wg s.heap z TI TO T) (r:s.heap.get? T=some o) (k:IsPair s.heap TI (.ref d) (.ref f))
  (t:s.heap.IsListIter d g i) (u:s.heap.IsListIter f h j) (l:s.heap.IsList g xs) (m:s.heap.IsList h n) (hx:xs[i]?=some x) (v:n[j]?=some y)
  (B:∀a,wg a z TI TO T->a.IsListIter d g (i+1)->a.IsListIter f h (j+1)->IsPair a s.heap.objs.size x y->a.objs.size=s.heap.objs.size+1 ->
   (∀c o,c≠z->c≠d->c≠f->s.heap.get? c=some o->a.get? c=some o)->Q (some (.ref s.heap.objs.size)) { s with heap:=a }):wpAny (model prog w) A (pyNext (.ref z)) Q E s:=by
 have q:s.TypeIs (.ref z) "zip":=let⟨_,e⟩:=p;⟨_,e,rfl⟩;unfold pyNext;exact ac (iQ (iT (name:=hG "__next__") q j4
  (lm j4 q u5 (Bz D p r k t u l m hx v fun a a1 a2 a3 C G H=>ak (B a a1 a2 a3 C G H)) (u3 _))))
theorem Bw{z TI TO T d f g h:Addr}{m n:Nat}{xs p:Array Value}{o:Obj}{Q:Option Value->Shared->Prop}(t:A.handled=none)(D:fE z TI TO d f g h)
  (q:wg s.heap z TI TO T) (u:s.heap.get? T=some o) (i:IsPair s.heap TI (.ref d) (.ref f))
  (v:s.heap.IsListIter d g m) (x:s.heap.IsListIter f h n) (j:s.heap.IsList g xs) (k:s.heap.IsList h p) (a:xs[m]?=none∨p[n]?=none)
  (y:∀l,(∀c o,c≠z->c≠d->c≠f->s.heap.get? c=some o->l.get? c=some o)->Q none { s with heap:=l }):wpAny (model prog w) A (pyNext (.ref z)) Q E s:=by
 have r:s.TypeIs (.ref z) "zip":=let⟨_,e⟩:=q;⟨_,e,rfl⟩;unfold pyNext;refine ac (iQ (iT (name:=hG "__next__") r j4
  (lm j4 r u5 (C9 t D q u i v x j k a fun l e B C=>?_) (u3 _))))
 obtain⟨o,G,H⟩:=C;exact ac (tQ (T:="StopIteration") (b:=true) ⟨o,G,H⟩ uZ (ak (y _ B)))
end
structure fQ(B:Nat)(S:Addr)(xs ys:Array Value)(h:Heap)(acc:Array Value)(ts:Ze)(i:Nat):Prop where
 is:acc.toList=ts.map .ref
 len:ts.length=i
 at':∀(j:Nat) t,ts[j]?=some t->B<=t/\∃x y,xs[j]?=some x/\ys[j]?=some y/\IsPair h t x y
 uni:ts.Nodup
theorem fQ.keep{B:Nat}{S:Addr}{xs g:Array Value}{h l:Heap}{f:Array Value}{m:Ze}{i:Nat}(d:fQ B S xs g h f m i)(k:∀c o,B<=c->h.get? c=some o->l.get? c=some o):fQ B S xs g l f m i :=
 ⟨d.is,d.len,fun j t e=>let⟨a,x,y,b,c,q⟩:=d.at' j t e;⟨a,x,y,b,c,k _ _ a q⟩,d.uni⟩
theorem fQ.push{B:Nat}{S:Addr}{xs k:Array Value}{h:Heap}{f:Array Value}{l:Ze}{i:Nat}{T:Addr}{x y:Value}(d:fQ B S xs k h f l i)(n:B<=T)(o:T∉l)(hx:xs[i]?=some x)(p:k[i]?=some y)(r:IsPair h T x y):
  fQ B S xs k h (f.push (.ref T)) (l++[T]) (i+1):=by
 refine⟨by simp[d.is],by simp[d.len],fun j t e=>?_,?_⟩
 ·rw[List.getElem?_append]at e;split at e
  ·exact d.at' j t e
  ·rename_i g;rw[d.len]at g e;have s:j-i=0:=by
    rcases qJ (j-i)with q|q
    ·exact q
    ·rw[fD (by simp;omega)]at e;cases e
   rw[s]at e;have u:j=i:=by omega
   subst u;simp at e;subst e;exact⟨n,x,y,hx,p,r⟩
 ·rw[cD];refine⟨d.uni,by simp,fun a v b m=>?_⟩;simp at m;subst m;exact fun q=>o (q▸v)
section
variable{prog:aU}{w:World}{A:Around}{R:Result->Shared->Prop}
theorem By{z TI TO T₁ v C E G S:Addr}{B:Nat}{xs h:Array Value}(hh:A.handled=none)(D:fE z TI TO v C E G)(bz:z<B)(bI:TI<B)(b1:v<B)(O:C<B)(c1:E<B)(c2:G<B)(bS:S<B)
  (sz:S≠z) (sI:S≠TI) (Y:S≠v) (s2:S≠C) (ab:S≠E) (al:S≠G) (hn:xs.size<=aj) (H:Value) :
  ∀(k i:Nat) (s:Shared) (acc:Array Value) (c:Nat) (r:Ze),min xs.size h.size-i=k->i<=min xs.size h.size->wg s.heap z TI TO T₁->T₁∈r->IsPair s.heap TI (.ref v) (.ref C) ->
  s.heap.IsListIter v E i->s.heap.IsListIter C G i->s.heap.IsList E xs->s.heap.IsList G h->s.heap.get? S=some { cls:=.type "list",dict:=none,data:=.seq acc c,slots:=#[] }->fQ B S xs h s.heap acc r i ->
  (∀l acc' c' u,(∀b o,b≠S->b≠z->b≠v->b≠C->s.heap.get? b=some o->l.get? b=some o)->l.get? S=some { cls:=.type "list",dict:=none,data:=.seq acc' c',slots:=#[] }->fQ B S xs h l acc' u (min xs.size h.size)->R (.ok (.ret H)) { s with heap:=l }) ->
  zzl87 (model prog w) A (.builtin "list.extend.loop" ⟨[.ref S,.ref z,H],[]⟩) R s:=by
 intro k
 induction k with
 |zero =>
  intro i s acc c r I hi hz Q m h1 h2 n p hS d hR;have e:i=min xs.size h.size:=by omega
  obtain⟨j,hj⟩:=qI Q;obtain⟨gT,x,y,_,_,U⟩:=d.at' j _ hj;refine qU F.entry_extend_loop ?_;rw[qS om _];show wpAny _ A.in1 (pyNext (.ref z) >>= _) _ _ s;refine ac (Bw hh D hz U m h1 h2 n p ?_ fun l I=>?_)
  ·rcases Nat.le_total xs.size h.size with q|q
   ·exact .inl (oo (by omega))
   ·exact .inr (oo (by omega))
  ·exact ak (hR l acc c r (fun b o _ O b3 b4 q=>I b o O b3 b4 q) (I S _ sz Y s2 hS) (e▸d.keep fun c o g q=>I c o (cI (cb bz g)) (cI (cb b1 g)) (cI (cb O g)) q))
 |succ k ih =>
  intro i s acc c r I hi hz Q m h1 h2 n p hS d hR;obtain⟨j,hj⟩:=qI Q;obtain⟨gT,x,y,_,_,U⟩:=d.at' j _ hj;have ix:i<xs.size:=by omega
  have iy:i<h.size:=by omega
  refine qU F.entry_extend_loop ?_;rw[qS om _];show wpAny _ A.in1 (pyNext (.ref z) >>= _) _ _ s;refine ac (Bx D hz U m h1 h2 n p (iN ix) (iN iy) fun l a1 a2 a3 a4 a5 a=>?_);have J:=a S _ sz Y s2 hS;have t:acc.size=i:=by rw[<-lJ,d.is,ao,d.len]
  have up:∀f:Obj->Obj,∀b o,b≠S->l.get? b=some o->(l.update S f).get? b=some o:=fun f b o hb q=>(fG _ _ (br hb)).trans q;have lt:T₁<s.heap.objs.size:=ar U;have dn:fQ B S xs h l acc r i:=d.keep fun c o g q=>a c o (cI (cb bz g)) (cI (cb b1 g)) (cI (cb O g)) q;have L:s.heap.objs.size∉r:=fun q=>by
   obtain⟨j',an⟩:=qI q;obtain⟨_,_,_,_,_,q'⟩:=d.at' j' _ an;exact jQ _ (ar q')
  have ap:=dn.push (T:=s.heap.objs.size) (dB (rg gT lt)) L (iN ix) (iN iy) a4;show wpAny _ A.in1 (qH S (·.push (.ref s.heap.objs.size)) >>= _) _ _ _;refine ac (qG J rfl (ak ⟨qR om _,ih (i+1) _ (acc.push (.ref s.heap.objs.size)) _ (r++[s.heap.objs.size]) (by omega) (by omega) ?_ (by simp[Q]) (up _ _ _ sI.symm (a _ _ D.TIz D.TIi1 D.TIi2 m)) (a2.at fun o q=>up _ _ o Y.symm q) (a3.at fun o q=>up _ _ o s2.symm q)
   (n.at fun o q=>up _ _ o ab.symm (a _ o D.l1z D.l1i1 D.l1i2 q)) (p.at fun o q=>up _ _ o al.symm (a _ o D.l2z D.l2i1 D.l2i2 q)) (eU _ J rfl) (ap.keep fun c o g q=>up _ c o (cI (cb bS g)) q) fun as acc' c' u M N hd=>?_⟩) (by rw[t];omega) (by show(acc.push _).size<=aj+1;rw[Array.size_push,t];omega))
  ·obtain⟨b,q⟩:=a1;exact⟨b,up _ _ _ sz.symm q⟩
  ·exact hR as acc' c' u (fun b o e1 e2 e3 e4 q=>M b o e1 e2 e3 e4 (up _ b o e1 (a b o e2 e3 e4 q))) N hd
theorem D5{z TI TO n p u v S:Addr}{a b:Value}{xs r:Array Value}{s:Shared}{c:Nat}(hh:A.handled=none)(D:fE z TI TO n p u v)
  (sz:S≠z) (sI:S≠TI) (sO:S≠TO) (I:S≠n) (J:S≠p) (x:S≠u) (y:S≠v) (hn:xs.size<=aj) (l:Value)
  (M:IsZip s.heap z TI TO .none) (d:IsPair s.heap TI (.ref n) (.ref p)) (C:IsPair s.heap TO a b)
  (N:s.heap.IsListIter n u 0) (O:s.heap.IsListIter p v 0) (g:s.heap.IsList u xs) (h:s.heap.IsList v r) (L:s.heap.get? S=some { cls:=.type "list",dict:=none,data:=.seq #[] c,slots:=#[] })
  (hR:∀i acc' Q m,(∀b o,b≠S->b≠z->b≠TO->b≠n->b≠p->s.heap.get? b=some o->i.get? b=some o)->i.get? S=some { cls:=.type "list",dict:=none,data:=.seq acc' Q,slots:=#[] }->fQ s.heap.objs.size S xs r i acc' m (min xs.size r.size)->R (.ok (.ret l)) { s with heap:=i }) :
  zzl87 (model prog w) A (.builtin "list.extend.loop" ⟨[.ref S,.ref z,l],[]⟩) R s:=by
 refine qU F.entry_extend_loop ?_;rw[qS om _];show wpAny _ A.in1 (pyNext (.ref z) >>= _) _ _ s;rcases qJ (min xs.size r.size)with e|e
 ·refine ac (wpAny_pyNext_zip_end hh D M d C N O g h ?_ fun i k=>?_)
  ·rcases Nat.le_total xs.size r.size with q|q
   ·exact .inl (oo (by omega))
   ·exact .inr (oo (by omega))
  ·exact ak (hR i #[] c [] (fun b o _ b2 b3 b4 b5 q=>k b o b2 b3 b4 b5 q) (k S _ sz sO I J L) (e▸⟨rfl,rfl,fun j t q=>by simp at q,.nil⟩))
 ·have ix:0<xs.size:=by omega
  have iy:0<r.size:=by omega
  refine ac (wpAny_pyNext_zip_item D M d C N O g h (iN ix) (iN iy) fun i a1 a2 a3 a4 a5 a6 k=>?_);have E:=k S _ sz sO I J L;have up:∀f:Obj->Obj,∀b o,b≠S->i.get? b=some o->(i.update S f).get? b=some o:=fun f b o hb q=>(fG _ _ (br hb)).trans q;have tn:s.heap.objs.size≠S:=cI (ar L);have lz:z<s.heap.objs.size:=ar M;have lI:TI<s.heap.objs.size:=ar d;have T:n<s.heap.objs.size:=let⟨_,e,_⟩:=N;ar e;have U:p<s.heap.objs.size:=let⟨_,e,_⟩:=O;ar e;have Y:u<s.heap.objs.size:=let⟨_,e,_⟩:=g;ar e;have ab:v<s.heap.objs.size:=let⟨_,e,_⟩:=h;ar e;show wpAny _ A.in1 (qH S (·.push (.ref s.heap.objs.size)) >>= _) _ _ _;refine ac (qG E rfl (ak ⟨qR om _,By (T₁:=s.heap.objs.size) (B:=s.heap.objs.size) hh D lz lI T U Y ab (ar L) sz sI I J x y hn l _ 1 _ (#[].push (.ref s.heap.objs.size)) _ [s.heap.objs.size] rfl (by omega) ⟨false,up _ _ _ sz.symm a1⟩ (by simp)
   (up _ _ _ sI.symm (k _ _ D.TIz D.TITO D.TIi1 D.TIi2 d)) (a3.at fun o q=>up _ _ o I.symm q) (a4.at fun o q=>up _ _ o J.symm q) (g.at fun o q=>up _ _ o x.symm (k _ o D.l1z D.l1TO D.l1i1 D.l1i2 q)) (h.at fun o q=>up _ _ o y.symm (k _ o D.l2z D.l2TO D.l2i1 D.l2i2 q))
   (eU _ E rfl) ⟨rfl,rfl,fun j t q=>?_,by simp⟩ fun al acc' Q m G H hd=>?_⟩) (by show(#[]:Array Value).size<=_;simp) (by show(#[Value.ref s.heap.objs.size]:Array Value).size<=aj+1;simp))
  ·cases j with
   |zero =>
    simp at q;subst q;exact⟨az _,_,_,iN ix,iN iy,up _ _ _ tn a5⟩
   |succ j=>simp at q
  ·exact hR al acc' Q m (fun b o e1 e2 e3 e4 e5 q=>G b o e1 e2 e4 e5 (up _ b o e1 (k b o e2 e3 e4 e5 q))) H hd
theorem xX:j9 (.type "zip") "__len__"=pure none:=by rw[typeLookup_type,builtinLookup_eq_fast];kernel_rfl
theorem wt:j9 (.type "zip") "__length_hint__"=pure none:=by rw[typeLookup_type,builtinLookup_eq_fast];kernel_rfl
structure v8(h:Heap)(z TI TO i1 i2 l1 l2:Addr)(xs ys:Array Value):Prop where
 ap:fE z TI TO i1 i2 l1 l2
 zp:IsZip h z TI TO .none
 ti:IsPair h TI (.ref i1) (.ref i2)
 to:∃a b,IsPair h TO a b
 j1:h.IsListIter i1 l1 0
 j2:h.IsListIter i2 l2 0
 k1:h.IsList l1 xs
 k2:h.IsList l2 ys
theorem v8.keep{h j:Heap}{z TI TO e f g i:Addr}{xs l:Array Value}(Z:v8 h z TI TO e f g i xs l){S:Addr}(d:∀b,b=z∨b=TI∨b=TO∨b=e∨b=f∨b=g∨b=i->b≠S)(k:∀b o,b≠S->h.get? b=some o->j.get? b=some o):v8 j z TI TO e f g i xs l :=
 ⟨Z.ap,k _ _ (d _ (by simp)) Z.zp,k _ _ (d _ (by simp)) Z.ti,let⟨a,b,q⟩:=Z.to;⟨a,b,k _ _ (d _ (by simp)) q⟩,Z.j1.at fun o q=>k _ o (d _ (by simp)) q,Z.j2.at fun o q=>k _ o (d _ (by simp)) q,Z.k1.at fun o q=>k _ o (d _ (by simp)) q,Z.k2.at fun o q=>k _ o (d _ (by simp)) q⟩
theorem v8.old{h:Heap}{z TI TO a d e f:Addr}{xs g:Array Value}(Z:v8 h z TI TO a d e f xs g):∀b,b=z∨b=TI∨b=TO∨b=a∨b=d∨b=e∨b=f->b<h.objs.size:=by
 intro b i;rcases i with rfl|rfl|rfl|rfl|rfl|rfl|rfl
 ·exact ar Z.zp
 ·exact ar Z.ti
 ·obtain⟨_,_,q⟩:=Z.to;exact ar q
 ·obtain⟨_,q,_⟩:=Z.j1;exact ar q
 ·obtain⟨_,q,_⟩:=Z.j2;exact ar q
 ·obtain⟨_,q,_⟩:=Z.k1;exact ar q
 ·obtain⟨_,q,_⟩:=Z.k2;exact ar q
theorem A3{z TI TO r t B C S:Addr}{xs u:Array Value}{s:Shared}{c:Nat}(H:A.handled=none)(Z:v8 s.heap z TI TO r t B C xs u)(g:∀b,b=z∨b=TI∨b=TO∨b=r∨b=t∨b=B∨b=C->b≠S)(I:xs.size<=aj)(d:Value)
  (D:s.heap.get? S=some { cls:=.type "list",data:=.seq #[] c })
  (J:∀j acc' k h,(∀b o,b≠S->b≠z->b≠TO->b≠r->b≠t->s.heap.get? b=some o->j.get? b=some o)->j.get? S=some { cls:=.type "list",dict:=none,data:=.seq acc' k,slots:=#[] }->fQ s.heap.objs.size S xs u j acc' h (min xs.size u.size)->R (.ok (.ret d)) { s with heap:=j }) :
  wpAny (model prog w) A.in1 (aS.List.listExtendWith (.ref S) (.ref z) d)
   (fun v m=>match v with | .done f=>R (.ok f) m | .again k=>k.quiet=true/\zzl87 (model prog w) A k R m) (fun e m=>R (.error e) m) s:=by
 have x:s.TypeIs (.ref z) "zip":=⟨_,Z.zp,rfl⟩;unfold aS.List.listExtendWith;refine ac (wpAny_typeOf x ?_);have L:aS.List.listSameRef (.ref S) (.ref z)=false:=by simp[aS.List.listSameRef,(g z (by simp)).symm]
 have M:(Value.type "zip"==Value.type "list")=false:=by decide
 have N:(Value.type "zip"==Value.type "tuple")=false:=by decide
 simp only[L,M,N,Bool.or_false,g_,if_false];refine ac (q_ Z.zp (ac (fz ?_)));unfold aS.List.listLengthHint;refine ac (A2 x xX ?_);show wpAny _ A.in1 (specialOf (Value.ref z) (hG "__length_hint__") >>= _) _ _ _;refine ac (A2 x wt (ak ?_));show wpAny _ A.in1 (rule "list.extend.makes-room" >>= fun _=>aS.List.listTouch (.ref S) >>= fun _=>again (.builtin "list.extend.loop" ⟨[.ref S,.ref z,d],[]⟩)) _ _ _;refine ac (mZ (ac ?_));show wpAny _ A.in1 (qH S (·.push .none) >>= fun _=>qH S (·.pop)) _ _ _;refine ac (qG D rfl ?_);have E:=eU (eV (·.push Value.none)) D rfl;refine qG (hz:=by seq_fits) E rfl ?_;have O:=eU (eV (·.pop)) E rfl;have l:∀b o,b≠S->s.heap.get? b=some o->((s.heap.update S (eV (·.push Value.none))).update S (eV (·.pop))).get? b=some o :=
  fun b o p e=>(fG _ _ (br p)).trans ((fG _ _ (br p)).trans e)
 have i:=Z.keep g l;obtain⟨a,b,Q⟩:=i.to;have n:=fun b p=>(g b p).symm;refine ak ⟨qR om _,D5 H Z.ap (n _ (by simp)) (n _ (by simp)) (n _ (by simp)) (n _ (by simp)) (n _ (by simp)) (n _ (by simp)) (n _ (by simp)) I d i.zp i.ti Q i.j1 i.j2 i.k1 i.k2 O fun j acc' k h T y U=>?_⟩;refine J j acc' k h (fun b o G Y f3 f4 f5 q=>T b o G Y f3 f4 f5 (l b o G q)) y ?_;have es:(((s.heap.update S (eV (·.push Value.none))).update S (eV (·.pop))).objs.size)=s.heap.objs.size:=by simp[Heap.update]
 exact es▸U
theorem D6{z TI TO m n u v S:Addr}{xs p:Array Value}{s:Shared}(y:A.handled=none)(Z:v8 s.heap z TI TO m n u v xs p)(j:∀b,b=z∨b=TI∨b=TO∨b=m∨b=n∨b=u∨b=v->b≠S)(B:xs.size<=aj)
  (r:s.heap.get? S=some { cls:=.type "list",data:=.seq #[] })
  (C:∀h acc' i a,(∀b o,b≠S->b≠z->b≠TO->b≠m->b≠n->s.heap.get? b=some o->h.get? b=some o)->h.get? S=some { cls:=.type "list",dict:=none,data:=.seq acc' i,slots:=#[] }->fQ s.heap.objs.size S xs p h acc' a (min xs.size p.size)->R (.ok (.ret .none)) { s with heap:=h }) :
  wpAny (model prog w) A.in1 (aS.«list.__init__» ⟨[.ref S,.ref z],[]⟩)
   (fun t l=>match t with | .done f=>R (.ok f) l | .again i=>i.quiet=true/\zzl87 (model prog w) A i R l) (fun e l=>R (.error e) l) s:=by
 show wpAny _ _ (aS.List.listItems (.ref S) >>= _) _ _ s;refine ac ?_;unfold aS.List.listItems;refine ac (i9 r rfl (ak ?_));show wpAny _ _ (qH S (fun _=>#[]) >>= _) _ _ s;refine ac (qG r rfl ?_);have D:=eU (eV (fun _=>(#[]:Array Value))) r rfl;have k:∀b o,b≠S->s.heap.get? b=some o->(s.heap.update S (eV (fun _=>(#[]:Array Value)))).get? b=some o:=fun b o E e=>(fG _ _ (br E)).trans e;refine ac (oz (A3 y (Z.keep j k) j B .none D fun h acc' i a G g d=>?_));have H:((s.heap.update S (eV (fun _=>(#[]:Array Value)))).objs.size)=s.heap.objs.size:=by simp[Heap.update]
 exact C h acc' i a (fun b o x I J L M q=>G b o x I J L M (k b o x q)) g (H▸d)
theorem zj{E:Zc}{Q:Zc}{z TI TO j k n p:Addr}{xs l:Array Value}{s:Shared}(t:A.handled=none)(Z:v8 s.heap z TI TO j k n p xs l)(u:xs.size<=aj)
  (v:∀f acc' m e,(∀b o,b≠z->b≠TO->b≠j->b≠k->s.heap.get? b=some o->f.get? b=some o)->f.get? s.heap.objs.size=some { cls:=.type "list",dict:=none,data:=.seq acc' m,slots:=#[] }->fQ (s.heap.objs.size+1) s.heap.objs.size xs l f acc' e (min xs.size l.size)->Q (.ref s.heap.objs.size) { s with heap:=f }) :
  wpAny (model prog w) A (call (.type "list") [.ref z]) Q E s:=by
 refine callType_codes (Q₁:=fun h a=>h=.ref s.heap.objs.size/\a={ s with heap:=s.heap.push { cls:=.type "list",data:=.seq #[] } }) F.called_list (F.typeCall_list_1 _) F.entry_list_init (code_list_new _ ⟨rfl,rfl⟩) fun h a i=>?_;obtain⟨rfl,rfl⟩:=i;have r:(s.heap.push { cls:=.type "list",data:=.seq #[] }).get? s.heap.objs.size=some { cls:=.type "list",data:=.seq #[] }:=bF _ rfl;have ne:∀b,b=z∨b=TI∨b=TO∨b=j∨b=k∨b=n∨b=p->b≠s.heap.objs.size:=fun b x=>bB (Z.old b x);refine⟨⟨_,r,rfl⟩,F.args_list_init_2 _ _,D6 (A:=A.in1) t (Z.keep ne fun b o _ q=>aF _ q) ne u r fun f acc' m e y g d=>?_⟩;exact⟨rfl,v f acc' m e (fun b o B C D G q=>y b o (bB (ar q)) B C D G (aF _ q)) g (by rw[<-gD s.heap { cls:=.type "list",data:=.seq #[] }];exact d)⟩
end
def r_(H:Hp):List Addr->List V->List V->Hp
 |t::ts,x::xs,y::ys=>r_ (upd H t (.tup [x,y])) ts xs ys
 |_,_,_=>H
theorem nM:∀{a:Ze}{xs d:List V}{H:Hp}{b:Addr},b∉a->r_ H a xs d b=H b
 |[],_,_,_,_,_=>by simp[r_]
 |_::_,[],_,_,_,_=>by simp[r_]
 |_::_,_::_,[],_,_,_=>by simp[r_]
 |t::a,x::xs,y::d,H,b,h=>by
  rw[r_,nM (fun q=>h (cO _ q))];exact ah (fun q:b=t=>h (by rw[q];exact b_))
theorem AH:∀{a:Ze}{xs d:List V}{H:Hp}{j:Nat}{t:Addr}{x y:V},a.Nodup->a[j]?=some t->xs[j]?=some x->d[j]?=some y->r_ H a xs d t=some (.tup [x,y])
 |[],_,_,_,j,_,_,_,_,e,_,_=>by simp at e
 |_::_,[],_,_,j,_,_,_,_,_,e,_=>by simp at e
 |_::_,_::_,[],_,j,_,_,_,_,_,_,e=>by simp at e
 |t::a,x::xs,y::d,H,0,i,k,l,n,f,g,h=>by
  simp at f g h;subst f g h;rw[r_,nM (dC.mp n).1,aa]
 |t::a,x::xs,y::d,H,j+1,i,k,l,n,f,g,h=>by
  rw[r_];exact AH (dC.mp n).2 (by simpa using f) (by simpa using g) (by simpa using h)
section
variable{X:Cx}{J2:Zd}{σ:St}{H:Hp}{s:Shared}{h':Heap}
theorem Inv.many{f:Hp}{N:Ze}{t':Nat}(I:Inv X J2 σ H s)(k:∀b u,s.heap.get? b=some u->h'.get? b=some u)(g:∀a∈N,s.heap.objs.size<=a)(d:∀b,b∉N->f b=H b)(new:∀a∈N,∀o,f a=some o->aZ X.prog X.w X.K f h' a o):
  Inv X J2 σ f { s with heap:=h',toks:=t' }:=by
 have old:∀b o,H b=some o->b∉N:=fun b o e q=>jQ _ (cb (I.hok.lt e) (g b q));have same:∀b o,H b=some o->f b=some o:=fun b o e=>by rw[d b (old b o e)];exact e
 refine I.un ⟨fun b u q _ _ _=>k b u q,fun b u q _ _ _=>⟨u.slots,k b u q⟩,fun b u q n _=>?_,fun b u q _=>⟨u,k b u q⟩,fun b xs q=>same b _ q,fun b o u q=>same b _ q,fun b i q=>⟨#[],by rw[same b _ q];simp⟩⟩ fun b o e=>?_
 ·rw[d b fun z=>jQ _ (cb (ar q) (g b z))];exact n
 ·by_cases h:b∈N
  ·exact new b h o e
  ·rw[d b h]at e;exact(I.hok b o e).stay (fun c v _ q=>k c v q) (fun c q=>same c _ q) fun c xs q=>same c _ q
theorem Fq{d:List V}{f:Zf}(r:aP d f):∀{j:Nat}{u:Value},f[j]?=some u->∃v,d[j]?=some v/\RelV v u:=by
 induction r with
 |nil=>intro j u e;simp at e
 |cons a _ g =>
  intro j u e;cases j with
  |zero=>simp at e;subst e;exact⟨_,rfl,a⟩
  |succ j=>exact g (by simpa using e)
theorem z6:∀a:List Addr,aP (a.map V.ref) (a.map Value.ref)
 |[]=>.nil
 |t::a=>.cons rfl (z6 a)
variable{p p2 pos pos2:Pos}
def Ch(K:Za)(ta:TA):TE:=fun σ H Q=>ta σ H fun vs H1=>∃a b xs ys,vs=[.ref a,.ref b]/\aH K H1 a xs/\aH K H1 b ys /\
 ∀(D:Addr) (ts:Ze),H1 D=none->(∀t∈ts,H1 t=none)->(D::ts).Nodup->ts.length=min xs.length ys.length->Q (.ref D) (upd (r_ H1 ts xs ys) D (.lst (ts.map .ref)))
theorem yL{a b:Expr}{ta:TA}(hc:X.calm=true)(hl:Gl X "list")(A:X.mg "list"=none)(hg:Gl X "zip")(hm:X.mg "zip"=none)(i:PA X [a,b] ta)(hs:aq [a,b] X.env=[(false,eval a X.env),(false,eval b X.env)]:=by rfl)(k:aq [b] X.env=[(false,eval b X.env)]:=by rfl)
  (l:aq [.Call (.Name "zip" p) [a,b] [] pos] X.env=[(false,eval (.Call (.Name "zip" p) [a,b] [] pos) X.env)]:=by rfl) :
  PE X (.Call (.Name "list" p2) [.Call (.Name "zip" p) [a,b] [] pos] [] pos2) (Ch X.K ta):=by
 intro J2 s σ H Q I h;refine Call_ (jE I hl A mD (tM ?_ (by rw[l];rfl) (by rfl)));rw[l];show wpAny _ _ (tO ((false,eval (.Call (.Name "zip" p) [a,b] [] pos) X.env)::[])) _ _ s;refine oK ?_;refine Call_ (jE I hg hm boot_zip (tM (bY (i pos J2 s σ H _ I h) fun us s1 B=>?_) (by rw[hs,k]) (by rw[k];rfl)));obtain⟨vs,H1,m,r1,q1⟩:=B;obtain⟨l1,l2,xs,ys,e,hx,hy,q⟩:=q1;subst e;obtain⟨u,v,rfl,ru,rv⟩:=vals2 r1;cases ru;cases rv;obtain⟨C,rx,D,zx⟩:=m.list hx;obtain⟨E,ry,G,zy⟩:=m.list hy;obtain⟨o1,n1,e1,_⟩:=id D;obtain⟨o2,n2,e2,_⟩:=id G;refine call_zip_2 D.isList G.isList fun h' a1 a2 a3 a4 a5 a6 J=>?_;refine wl ?_;have Z:v8 h' (s1.heap.objs.size+4) (s1.heap.objs.size+2) (s1.heap.objs.size+3) s1.heap.objs.size (s1.heap.objs.size+1) l1 l2 C.toArray E.toArray :=
  ⟨zipApart_new (ar e1) (ar e2),a1,a2,⟨_,_,a3⟩,a4,a5,D.isList.at fun o q=>J _ o q,G.isList.at fun o q=>J _ o q⟩
 have lx:=rx.length;have ly:=ry.length;refine zj (s:={ s1 with heap:=h' }) (I.ok.hd hc) Z (by simp;omega) fun h2 an c f L g d=>?_;have M:∀b o,s1.heap.get? b=some o->h2.get? b=some o:=fun b o q=>by
  have lt:=ar q;exact L b o (bB (cb lt (rc _ 4))) (bB (cb lt (rc _ 3))) (bB lt) (bB (cb lt (rc _ 1))) (J b o q)
 have bd:∀t∈f,s1.heap.objs.size+5<t:=fun t n=>by
  obtain⟨j,r⟩:=qI n;have:=(d.at' j t r).1;have e:(uY { s1 with heap:=h' }).objs.size=s1.heap.objs.size+5:=a6;rw[e]at this;omega
 have O:(uY { s1 with heap:=h' }).objs.size=s1.heap.objs.size+5:=a6;rw[O]at g ⊢;have nD:s1.heap.objs.size+5∉f:=fun q=>jQ _ (bd _ q);have T:s1.heap.objs.size<=s1.heap.objs.size+5:=rc _ _;have n:∀t∈f,s1.heap.objs.size<=t:=fun t q=>dB (rg T (bd t q));refine⟨.ref (s1.heap.objs.size+5),upd (r_ H1 f xs ys) (s1.heap.objs.size+5) (.lst (f.map .ref)),m.many (N:=(s1.heap.objs.size+5)::f) (t':=s1.toks) M (fun a i=>?_) (fun b hb=>?_) fun a i o e=>?_,rfl,q _ f (m.hok.fresh T) (fun t z=>m.hok.fresh (n t z)) (dC.mpr ⟨nD,d.uni⟩) (by rw[d.len];simp[lx,ly])⟩
 ·rcases bA.mp i with z|z
  ·rw[z];exact T
  ·exact n a z
 ·rw[ah fun z=>hb (by rw[z];exact b_)];exact nM fun z=>hb (cO _ z)
 ·rcases bA.mp i with z|z
  ·subst z;rw[aa]at e;cases e;refine⟨by rw[ao,d.len];simp;omega,f.map .ref,c,z6 f,?_⟩;rw[<-d.is];simpa using g
  ·have ne:a≠s1.heap.objs.size+5:=fun w=>nD (w▸z);rw[ah ne]at e;obtain⟨j,r⟩:=qI z;obtain⟨_,x,y,U,Y,qT⟩:=d.at' j a r;obtain⟨vx,ex,ab⟩:=Fq rx (j:=j) (u:=x) (by simpa using U);obtain⟨vy,ey,al⟩:=Fq ry (j:=j) (u:=y) (by simpa using Y);rw[AH d.uni r ex ey]at e;cases e;exact⟨by show 2<=aj;decide,[x,y],.cons ab (.cons al .nil),⟨_,qT,rfl,_,rfl⟩⟩
end
end L2
namespace L2
open PySem PySem.Spec PyProof.Rows
end L2
end

section
set_option Elab.async false
set_option linter.all false
set_option maxRecDepth 100000
namespace HT
open PySem PyProof.Rows
end HT
namespace L2
open PySem PySem.Spec PyProof.Rows
end L2
end

section
set_option Elab.async false
set_option linter.all false
set_option maxRecDepth 100000
namespace HT
open PySem PyProof.Rows
end HT
namespace L2
open PySem PySem.Spec PyProof.Rows
end L2
end

section
set_option Elab.async false
set_option linter.all false
set_option maxRecDepth 100000
namespace HT
open PySem PyProof.Rows
end HT
end

section
set_option Elab.async false
set_option linter.all false
set_option maxRecDepth 100000
namespace L2
open PySem PySem.Spec PyProof.Rows
end L2
end

section
set_option Elab.async false
set_option linter.all false
set_option maxRecDepth 100000
namespace L2
open PySem PySem.Spec PyProof.Rows
end L2
end

section
set_option Elab.async false
set_option linter.all false
set_option maxRecDepth 100000
namespace HT
open PySem PyProof.Rows
end HT
end

section
set_option Elab.async false
set_option linter.all false
set_option maxRecDepth 100000
namespace L2
open PySem PySem.Spec PyProof.Rows
section
variable{X:Cx}
theorem f_{l:List Expr}{n:Nat}{p:Pos}{a:List Expr}{d:TE}{t:TA}(e:PE X (.Tuple l n p) d)(f:PA X a t):PA X (.Tuple l n p::a) (aG d t):=aO e f rfl
theorem qsL(i:Nat){x:Str}{l:List Expr}{p d a:Pos}{e:TE}(f:X.N.Nodup)(g:PE X (.List l p) e)(hi:X.N[i]?=some x:=by rfl)(hx:Loc X.env.scope x:=by first|exact Or.inl rfl|exact Or.inr rfl)(hf:X.fn x=true∨X.env.scope.names.lookup x=some .local:=by first|exact .inl rfl|exact .inr rfl|assumption):
  PS X (.Assign [.Name x a] (.List l p) d) (a_ e (cT i)):=CN f hi hx g rfl hf
end
section
variable{X:Cx}{e:Expr}{f:Str}{pos:Pos}
theorem EI{g:XK->TE}(i:B2 X e g)(j:jW e f X.env (eval e X.env)=eval e X.env:=by rfl):B2 X (.Attribute e f pos) (fun W=>fu X.K (g W) f):=by
 intro k s σ H Q W I h;refine AW j (bV (i k s σ H _ W I h) (fun u y d=>?_) fun _ _ z=>z);obtain⟨x,m,o,p,a,C,A,fs,v,ex,r,c,n,l,q⟩:=d;subst ex;obtain rfl:u=Value.ref a:=p;exact sk o r c n l fun B D t w=>⟨v,m,t,w,q⟩
end
end L2
end
set_option Elab.async false
set_option linter.all false
set_option maxRecDepth 100000
set_option maxHeartbeats 4000000
namespace Mum
open PySem PySem.Spec PyProof.Rows L2
def vm(K:Za):TS :=
 aw (dw (bX (aJ rGeI V0 (aJ FA (tC (.int 10)) (tC (.int 18))))) (bc V0) (bD))
 (aw (a_ (aJ fb (aJ bP (aJ bP (aJ jR (aJ fb V0 (tC (.int 1000000007))) (tC (.int 69069))) (aJ jR V1 (tC (.int 40503)))) (tC (.int 977))) (tC (.int 2147483629))) U2)
 (aw (a_ (aJ fb (aJ bP (aJ bP (aJ jR V2 V2) (aJ jR V1 (tC (.int 7919)))) (aJ fb V0 (tC (.int 65537)))) (tC (.int 2147483587))) U3)
 (aw (a_ (aJ fb (aJ bP (aJ bP (aJ jR V3 V3) (aJ jR V2 (tC (.int 31)))) (tC (.int 5))) (tC (.int 2147483563))) U4)
 (bc (aJ bP (aJ jR (aJ bP (aJ jR V2 (tC (.int 2147483659))) V3) (tC (.int 2147483693))) V4)))))
def wc:List Str:=["cell","at","one","two","three"]
def yh(K:Za):TS :=
 aw (a_ (db (dU K) (aK (DV (Bi K) V0 (gH) (kf (tC (.int 12)))))) U1)
 (aw (fK (xz K (aK (DV (Bi K) V0 (kf (tC (.int 12))) (kf (tC (.int 63)))))) (mz K 2 (ca U2 (ca U3 (mB)))) (a_ (aJ bP (aJ (cR K) V1 (aJ fb V2 (tC (.int 12)))) V3) (za V1 (aJ fb V2 (tC (.int 12))) rR)))
 (bc (eL (dR V1 (tC (.int 0)) (tC (.int 0))))))
def zG:List Str:=["script","cells","k","cell"]
def yi(K:Za):TS :=
 aw (a_ (tC (.int 0)) (za V0 (tC (.int 2)) rR))
 (bc V0)
def zH:List Str:=["pen"]
def yf(K:Za)(sp_law_spread:Sp):TS :=
 aw (dw (bX (aJ EB (aJ (cR K) V0 (tC (.int 2))) V1)) (aw (a_ (aJ (cR K) V0 (tC (.int 1))) U2)
 (aw (a_ (tC (.int 0)) U3)
 (aw (dw (bX (aJ EB V2 (db (f8 K) (aK (aJ (cR K) V0 (tC (.int 0))))))) (a_ (aJ (cR K) (aJ (cR K) V0 (tC (.int 0))) V2) U3) (dw (bX (aJ CH (db (f8 K) (aK (aJ (cR K) V0 (tC (.int 0))))) (tC (.int 0)))) (a_ (aJ fb (aJ (cR K) (aJ (cR K) V0 (tC (.int 0))) (aJ fb (aJ bP (aJ jR V2 (tC (.int 5))) (tC (.int 3))) (db (f8 K) (aK (aJ (cR K) V0 (tC (.int 0))))))) (aJ bP (aJ FA (tC (.int 10)) (tC (.int 17))) V2)) U3) (bD)))
 (aw (a_ (aJ bP V2 (tC (.int 1))) (za V0 (tC (.int 1)) rR))
 (a_ (bG sp_law_spread (aM V3 V2)) (za V0 (tC (.int 2)) rR)))))) (bD))
 (aw (a_ (aJ fb (aJ (cR K) V0 (tC (.int 2))) V1) U4)
 (aw (a_ (aJ Ao (aJ (cR K) V0 (tC (.int 2))) V1) (za V0 (tC (.int 2)) rR))
 (bc V4)))
def zD:List Str:=["pen","many","at","cell","found"]
def wC(K:Za)(sp_law_take:Sp):TS :=
 aw (a_ (tC (.str "abcdefghijklmnopqrstuvwxyz")) U2)
 (aw (a_ (xU K "str" (FB K) (tC (.str "")) (aG (gF 1 [2,0] (pL (aK (tC (.int 7)))) U0 (oR) (aJ yF V1 (bG sp_law_take (aM V2 (tC (.int 26)))))) cv)) U3)
 (aw (a_ (bG sp_law_take (aM V0 (tC (.int 3)))) U4)
 (aw (a_ (bG sp_law_take (aM V0 (tC (.int 26)))) U5)
 (aw (a_ (bG sp_law_take (aM V0 (tC (.int 8)))) U6)
 (aw (a_ (eL (cv)) U7)
 (aw (fK (pL (aK V1)) U8 (aw (a_ (aJ yF V2 (aJ fb (aJ bP V5 (aJ jR (tC (.int 3)) V8)) (tC (.int 26)))) U9)
 (aw (a_ (DV CD V3 (gH) (kf (aJ fb (aJ bP V6 (aJ jR V8 (aJ fb V4 (tC (.int 2))))) (tC (.int 8))))) HU)
 (aw (a_ (aJ (cR K) (eL (dR (tC (.int 0)) (db (f8 K) (aK FU)) (aJ Ao (db (f8 K) (aK FU)) (tC (.int 2))))) V4) U11)
 (eZ (xU K "list" ee V7 (aK (aJ Ap (aJ Ap (DV CD FU (gH) (kf GI)) V9) (DV CD FU (kf GI) (gH))))))))))
 (bc V7)))))))
def xR:List Str:=["pen","many","letters","base","way","turn","size","found","k","sign","part","at"]
def sU(K:Za)(C_Machine:Addr)(sp_Machine_init:Sp):TS :=
 bc (rJ C_Machine sp_Machine_init [] E0 (aG (db (dU K) (aK (aJ (B0 K) V0 (tC (.int 0))))) (aG (db (dU K) (aK (aJ (B0 K) V0 (tC (.int 1))))) (aG (db (dU K) (aK (aJ (B0 K) V0 (tC (.int 2))))) (aG (db (dU K) (aK (aJ (B0 K) V0 (tC (.int 3))))) cv)))))
def tI:List Str:=["told"]
def rF(K:Za)(sp_law_same:Sp):TS :=
 aw (dw (tB (Ci V1)) (bc (Ci V0)) (bD))
 (aw (dw (bX (aJ CG V1 (tC (.bl true)))) (bc (aJ CG V0 (tC (.bl true)))) (bD))
 (aw (dw (bX (aJ CG V1 (tC (.bl false)))) (bc (aJ CG V0 (tC (.bl false)))) (bD))
 (aw (dw (tB (db (h9 K) (aM V1 (tC (.ty "int"))))) (bc (iz (db (h9 K) (aM V0 (tC (.ty "int")))) (iz (Fu (db (h9 K) (aM V0 (tC (.ty "bool"))))) (aJ (ED K) V0 V1)))) (bD))
 (aw (dw (tB (db (h9 K) (aM V1 (tC (.ty "str"))))) (bc (iz (db (h9 K) (aM V0 (tC (.ty "str")))) (aJ (ED K) V0 V1))) (bD))
 (aw (dw (DW (bX (aJ Am (db (h9 K) (aM V1 (tC (.ty "tuple")))) (db (h9 K) (aM V0 (tC (.ty "tuple")))))) (bX (aJ Am (db (h9 K) (aM V1 (tC (.ty "list")))) (db (h9 K) (aM V0 (tC (.ty "list"))))))) (bc (tC (.bl false))) (bD))
 (aw (dw (bX (aJ Am (db (f8 K) (aK V0)) (db (f8 K) (aK V1)))) (bc (tC (.bl false))) (bD))
 (aw (fK (xy K (aM V0 V1)) (mz K 2 (ca U2 (ca U3 (mB)))) (dw (Ba (tB (bG sp_law_same (aM V2 V3)))) (bc (tC (.bl false))) (bD)))
 (bc (tC (.bl true))))))))))
def zE:List Str:=["found","due","one","other"]
def A9(K:Za):TS :=
 bc (iz (aJ Am V0 (tC (.str ""))) (iz (aJ rLeI (db (f8 K) (aK V0)) (tC (.int 8))) (db (Hi K) (aK (gF 1 [] (Hs V0) U0 (oR) (aJ rInS V0 (tC (.str "abcdefghijklmnopqrstuvwxyz"))))))))
def BV:List Str:=["text"]
def A_(K:Za):TS :=
 aw (a_ (oX) U1)
 (aw (fK (gf K V0) U2 (kj V1 V2 (tC (.bl true))))
 (bc V1))
def BW:List Str:=["things","keys","thing"]
def me(K:Za)(sp_is_name:Sp)(sp_as_keys:Sp):TS :=
 aw (dw (bX (aJ EE (db (f8 K) (aK V0)) (tC (.int 0)))) (bc (tC (.int 0))) (bD))
 (aw (a_ (bG sp_as_keys (aK V2)) U3)
 (aw (fK (xz K (aK V0)) (mz K 2 (ca U4 (ca U5 (mB)))) (aw (dw (DW (bX (aJ EE V4 V1)) (DW (tB (Bb K V5 V3)) (Ba (tB (bG sp_is_name (aK V5)))))) (bc V4) (bD))
 (kj V3 V5 (tC (.bl true)))))
 (bc (tC .non))))
def mH:List Str:=["names","most","taken","ahead","number","name"]
def vo(K:Za)(a_STILL:Addr):TS :=
 bc (aJ yG (aJ yG (gF 1 [] (gf K V0) U0 (oR) (bW (aM (tC (.str "ask")) V0))) (gF 1 [] (gf K V1) U0 (oR) (bW (aM (tC (.str "say")) V0)))) (eL (aK (tC (.ref a_STILL)))))
def wf:List Str:=["asks","says"]
def mf(K:Za)(sp_as_keys:Sp):TS :=
 aw (a_ (bG sp_as_keys (aK V1)) U3)
 (aw (a_ (oW) U4)
 (aw (fK (xz K (aK V0)) (mz K 2 (ca U5 (ca U6 (mB)))) (aw (dw (DW (bX (aJ EE V5 (tC (.int 2000)))) (tB (Bb K V6 V4))) (bc V5) (bD))
 (aw (dw (DW (tB (kN K (aJ (B0 K) V6 (tC (.int 0))) V3)) (DW (bX (aJ (Hh K true) (aJ (B0 K) V6 (tC (.int 1))) V2)) (tB (kN K (aJ (B0 K) V6 (tC (.int 2))) V3)))) (bc V5) (bD))
 (kj V4 V6 (tC (.bl true))))))
 (bc (tC .non))))
def mI:List Str:=["doors","rooms","signs","own_rooms","ahead","number","door"]
def io(K:Za):TS :=
 aw (a_ (oW) U1)
 (aw (fK (gf K V0) (mz K 3 (ca U2 (ca U3 (ca U4 (mB))))) (eZ (xU K "list" ee (xU K "dict" Al V1 (aM (bW (aG V2 (aK V3))) (eL (cv)))) (aK V4))))
 (bc V1))
def ir:List Str:=["doors","goals","start","sign","goal"]
def rE(K:Za)(a_STILL:Addr):TS :=
 aw (a_ (oX) U2)
 (aw (a_ (eL (aK V1)) U3)
 (aw (yj (bX (aJ CH (db (f8 K) (aK V3)) (tC (.int 0)))) (aw (a_ (Hb K "list" Hf V3) U4)
 (fK (Ht K (oY K V0 (bW (aM V4 (tC (.ref a_STILL)))) (bW (cv)))) U5 (dw (tB (kN K V5 V2)) (aw (kj V2 V5 (tC (.bl true)))
 (eZ (xU K "list" ee V3 (aK V5)))) (bD)))))
 (bc V2)))
def sG:List Str:=["goals","room","led","waiting","here","goal"]
def m8(K:Za):TS :=
 aw (fK (xz K (aK V0)) (mz K 2 (ca U2 (ca U3 (mB)))) (dw (tB (Bb K V3 (wO K V1 V3))) (bc V2) (bD)))
 (bc (tC .non))
def n8:List Str:=["rooms","led","number","room"]
def wB(K:Za):TS :=
 dw (tB (Fv V1)) (Cg) (bD)
def xQ:List Str:=["part","number"]
def vk(K:Za)(sp_need_none:Sp)(sp_first_wrong_door:Sp)(sp_door_signs:Sp)(sp_first_wrong_name:Sp):TS :=
 aw (eZ (bG sp_need_none (aM (tC (.str "asks")) (bG sp_first_wrong_name (dR V0 (tC (.int 4)) (eL (cv)))))))
 (aw (eZ (bG sp_need_none (aM (tC (.str "says")) (bG sp_first_wrong_name (dR V1 (tC (.int 4)) V0)))))
 (aw (eZ (bG sp_need_none (aM (tC (.str "rooms")) (bG sp_first_wrong_name (dR V2 (tC (.int 150)) (eL (cv)))))))
 (eZ (bG sp_need_none (aG (tC (.str "doors")) (aK (bG sp_first_wrong_door (dR V3 V2 (bG sp_door_signs (aM V0 V1))))))))))
def wb:List Str:=["asks","says","rooms","doors"]
def oQ(K:Za):TS :=
 aw (a_ (oX) U2)
 (aw (fK (gf K V0) U3 (kj V2 V3 (eL (cv))))
 (aw (fK (gf K V1) U4 (eZ (xU K "list" ee (wO K V2 (aJ (B0 K) V4 (tC (.int 0)))) (aK V4))))
 (bc V2)))
def ph:List Str:=["rooms","doors","leaving","room","door"]
def oP(K:Za):TS :=
 bc (db (Hi K) (aG (gF 1 [] (gf K V0) U0 (oR) (aJ EE (aJ (B0 K) (aJ (B0 K) V0 (tC (.int 1))) (tC (.int 0))) (tC (.str "ask")))) cv))
def pf:List Str:=["doors"]
def ml(K:Za)(sp_need_none:Sp)(sp_first_led_round:Sp)(sp_led_by_still:Sp)(sp_goals_by_start_and_sign:Sp)(sp_as_keys:Sp)(sp_has_asks_alone:Sp)(sp_doors_by_start:Sp)(sp_need_parts:Sp):TS :=
 aw (eZ (bG sp_need_parts (aG V1 (dR V2 V3 V4))))
 (aw (nC K V0 (db (dU K) (aK V1)) "own_asks")
 (aw (nC K V0 (db (dU K) (aK V2)) "own_says")
 (aw (nC K V0 (db (dU K) (aK V3)) "own_rooms")
 (aw (nC K V0 (db (dU K) (aK V4)) "own_doors")
 (aw (nC K V0 (bG sp_doors_by_start (aM V3 V4)) "leaving")
 (aw (nC K V0 (bG sp_as_keys (aG (gF 1 [0] (gf K V3) U0 (tB (bG sp_has_asks_alone (aK (wO K (fu K V1 "leaving") V0)))) V0) cv)) "quiet")
 (aw (nC K V0 (bG sp_goals_by_start_and_sign (aK V4)) "sign_goals")
 (aw (nC K V0 (db (EF K) (aG (gF 1 [0] (gf K V3) U0 (oR) (bW (aM V0 (bG sp_led_by_still (aG (fu K V1 "sign_goals") (aK V0)))))) cv)) "still_led")
 (eZ (bG sp_need_none (aM (tC (.str "still")) (bG sp_first_led_round (aG V3 (aK (fu K V0 "still_led")))))))))))))))
def mL:List Str:=["self","asks","says","rooms","doors"]
def mj(K:Za):TS :=
 bc (Bb K V1 (fu K V0 "quiet"))
def mK:List Str:=["self","room"]
def lM(K:Za)(sp_with_still:Sp)(C_Machine:Addr)(sp_Machine_goals:Sp)(a_HUSH:Addr)(sp_Machine_is_quiet:Sp):TS :=
 aw (dw (bX (aJ (ED K) V2 (tC (.ref a_HUSH)))) (bc (db (Fz K) (aK (gF 1 [0] (GC K V1) U0 (tB (fZ C_Machine "is_quiet" sp_Machine_is_quiet [] E0 V1 (aK V0))) V0)))) (bD))
 (aw (a_ (eL (cv)) U3)
 (aw (fK (GC K V1) U4 (eZ (xU K "list" An V3 (aK (fZ C_Machine "goals" sp_Machine_goals [] E0 V0 (aM V4 V2))))))
 (bc (bG sp_with_still (aM V0 V3)))))
def lO:List Str:=["M","face","sign","goals","room"]
def dH(p:Addr)(H H':Hp):Prop:=∀b o,H b=some o->b≠p->H' b=some o
theorem dH.refl(p:Addr)(H:Hp):dH p H H:=fun _ _ h _=>h
theorem dH.trans{p:Addr}{H d e:Hp}(a:dH p H d)(b:dH p d e):dH p H e:=fun c o h n=>b c o (a c o h n) n
theorem af.exB{p:Addr}{H d:Hp}(a:af H d):dH p H d:=fun b o h _=>a b o h
theorem dH.upd(p:Addr)(H:Hp)(o:HO):dH p H (upd H p o):=fun b u h n=>by rw[ah n];exact h
theorem af.new{H:Hp}{a:Addr}{o:HO}(h:H a=none):af H (upd H a o):=fun b u e=>by rw[ah (ae e h)];exact e
theorem dH.free{p:Addr}{H a:Hp}(e:dH p H a){u:HO}(d:a p=some u){l:Addr}(h:a l=none):H l=none:=by
 cases q:H l with
 |none=>rfl
 |some o =>
  by_cases z:l=p
  ·subst z;rw[d]at h;cases h
  ·rw[e l o q z]at h;cases h
theorem kp{H:Hp}{a b:Addr}{o x:HO}(h:H b=some o)(n:H a=none):upd H a x b=some o:=by rw[ah (ae h n)];exact h
structure AZ(H:Hp)(p c:Addr)(at_ rest:Int)(ns:List Int):Prop where
 pen:H p=some (.lst [.ref c,.int at_,.int rest])
 cells:H c=some (.lst (ns.map V.int))
 at0:0<=at_
 rest0:0<=rest
theorem AZ.ne{H:Hp}{p c:Addr}{a r:Int}{f:List Int}(h:AZ H p c a r f):c≠p:=by
 intro e;have g:=h.pen;have d:=h.cells;rw[e,g]at d;injection d with d;injection d with d;cases f with
 |nil=>cases d
 |cons n f=>injection d with d;cases d
def jV(H:Hp)(p c:Addr):Prop:=∃a r ns,AZ H p c a r ns
theorem jV.ex{H H':Hp}{p c:Addr}(h:jV H p c)(e:af H H'):jV H' p c:=by
 obtain⟨a,r,d,f,g,i,j⟩:=h;exact⟨a,r,d,e _ _ f,e _ _ g,i,j⟩
theorem jV.pen{H:Hp}{p c:Addr}(h:jV H p c):∃o,H p=some o:=by
 obtain⟨a,r,e,d,_⟩:=h;exact⟨_,d⟩
theorem jV.cell{H:Hp}{p c:Addr}(h:jV H p c):∃o,H c=some o:=by
 obtain⟨a,r,e,_,d,_⟩:=h;exact⟨_,d⟩
theorem jV.upd{H:Hp}{p c l:Addr}{o:HO}(h:jV H p c)(d:p≠l)(e:c≠l):jV (upd H l o) p c:=by
 obtain⟨a,r,f,g,i,j,k⟩:=h;exact⟨a,r,f,by rw[ah d];exact g,by rw[ah e];exact i,j,k⟩
theorem jV.nep{H:Hp}{p c l:Addr}(h:jV H p c)(a:H l=none):p≠l:=let⟨_,e⟩:=h.pen;ae e a
theorem jV.nec{H:Hp}{p c l:Addr}(h:jV H p c)(a:H l=none):c≠l:=let⟨_,e⟩:=h.cell;ae e a
theorem dH.new{p:Addr}{H:Hp}{a:Addr}{o:HO}(h:H a=none):dH p H (L2.upd H a o):=fun b u e _=>by rw[ah (ae e h)];exact e
inductive kO (vs:List V)(H:Hp)(Q:VK)(E:XK):Prop
 |mk (c a:Int):(vs=[.int c,.int a])->(0<=a)->(∀r:Int,0<=r->Q (.int r) H)->kO  vs H Q E
theorem nV{i j:Int}(a:-(2 ^ 64)<j)(d:j<2 ^ 64):DU i j:=.inr ⟨a,d⟩
theorem Bd{K:Za}{d:List V}{H:Hp}{Q:VK}{E:XK}(h:kO d H Q E):vm K (bJ Q) (start wc d) H:=by
 obtain⟨c,a,rfl,w,k⟩:=h;refine⟨_,rfl,_,_,rfl,rfl,⟨by decide,by decide,by decide⟩,_,_,rfl,rfl,_,rfl,?_⟩;refine tD (fun h=>?_) (fun _=>?_)
 ·refine⟨_,rfl,k _ ?_⟩;have:=of_decide_eq_true h;have e:((10:Int) ^ (18:Int).toNat)=1000000000000000000:=by decide
  omega
 ·have one:∀z:Int,0<=z % 2147483629/\z % 2147483629<2147483629:=fun z=>⟨ol _ (by decide),oj _ (by decide)⟩;have two:∀z:Int,0<=z % 2147483587/\z % 2147483587<2147483587:=fun z=>⟨ol _ (by decide),oj _ (by decide)⟩;have three:∀z:Int,0<=z % 2147483563/\z % 2147483563<2147483563:=fun z=>⟨ol _ (by decide),oj _ (by decide)⟩;refine⟨_,rfl,_,_,rfl,rfl,(by show(0:Int)<1000000007;decide),_,_,rfl,rfl,nV (by decide) (by decide),_,rfl,_,_,rfl,rfl,nV (by decide) (by decide),_,_,rfl,rfl,_,_,rfl,rfl,_,_,rfl,rfl,(by show(0:Int)<2147483629;decide),?_⟩;generalize j:(c % 1000000007 * 69069+a * 40503+977)=f;obtain⟨l,m⟩:=one f;generalize f % 2147483629=o at l m ⊢;refine⟨_,rfl,_,rfl,_,_,rfl,rfl,nV (by omega) (by omega),_,rfl,_,_,rfl,rfl,nV (by decide) (by decide),_,_,rfl,rfl,_,rfl,_,_,rfl,rfl,(by show(0:Int)<65537;decide),_,_,rfl,rfl,_,_,rfl,rfl,(by show(0:Int)<2147483587;decide),?_⟩;generalize n:(o * o+a * 7919+c % 65537)=g;obtain⟨p,s⟩:=two g;generalize g % 2147483587=q at p s ⊢;refine⟨_,rfl,_,rfl,_,_,rfl,rfl,nV (by omega) (by omega),_,rfl,_,_,rfl,rfl,nV (by decide) (by decide),_,_,rfl,rfl,_,_,rfl,rfl,_,_,rfl,rfl,(by show(0:Int)<2147483563;decide),?_⟩;generalize t:(q * q+o * 31+5)=i;obtain⟨u,v⟩:=three i;generalize i % 2147483563=r at u v ⊢;refine⟨_,rfl,_,_,rfl,rfl,nV (by decide) (by decide),_,rfl,_,_,rfl,rfl,_,_,rfl,rfl,nV (by decide) (by decide),_,rfl,_,_,rfl,rfl,k _ ?_⟩;omega
def vA:Sp:=fun vs H Q _=>∃p c,vs=[.ref p]/\jV H p c/\∀H',jV H' p c->dH p H H'->Q (.ref p) H'
theorem Ez{K:Za}{d:List V}{H:Hp}{Q:VK}{E:XK}(h:vA d H Q E):yi K (bJ Q) (start zH d) H:=by
 obtain⟨p,c,rfl,⟨a,r,e,h⟩,k⟩:=h;refine⟨_,rfl,p,_,_,_,rfl,rfl,h.pen,rfl,_,rfl,k _ ⟨a,0,e,aa,?_,h.at0,Int.le_refl 0⟩ (dH.upd _ _ _)⟩;rw[ah h.ne];exact h.cells
theorem AX{ns:List Int}{a:Int}(d:0<=a)(f:a<ns.length):∃z,xO (ns.map V.int) a=some (.int z):=by
 obtain⟨n,rfl⟩:=jZ d;have e:n<ns.length:=by omega
 exact⟨ns[n],cM (by simp[e])⟩
inductive jx (vs:List V)(H:Hp)(Q:VK)(E:XK):Prop
 |mk (p c:Addr) (m:Int):(vs=[.ref p,.int m])->(jV H p c)->(0<m)->(m<1073741824)->(∀(r:Int) (H':Hp),0<=r->r<m->jV H' p c->dH p H H'->Q (.int r) H')->jx  vs H Q E
theorem jw{H:Hp}{Q:VK}{E:XK}{p c:Addr}{m:Int}(d:jV H p c)(e:0<m)(f:m<1073741824)(k:∀(r:Int) (a:Hp),0<=r->r<m->jV a p c->dH p H a->Q (.int r) a):jx [.ref p,.int m] H Q E:=by
 exact⟨p,c,m,rfl,d,e,f,k⟩
theorem Es{K:Za}{s:List V}{H:Hp}{Q:VK}{E:XK}(h:jx s H Q E):yf K kO (bJ Q) (start zD s) H:=by
 obtain⟨p,c,m,rfl,⟨a,r,ns,h⟩,i,j,k⟩:=h;have d:∀(H':Hp) (l t:Int) (x y:Option V),AZ H' p c l t ns->dH p H H' ->
   (aw (a_ (aJ fb (aJ (cR K) V0 (tC (.int 2))) V1) U4) (aw (a_ (aJ Ao (aJ (cR K) V0 (tC (.int 2))) V1) (za V0 (tC (.int 2)) rR)) (bc V4)))
    (bJ Q) [some (.ref p),some (.int m),x,y,none] H':=by
  intro H' l t x y f ex;refine⟨_,rfl,p,_,2,_,rfl,rfl,aH.of f.pen,rfl,_,rfl,_,_,rfl,rfl,i,?_⟩;refine⟨_,rfl,p,_,2,_,rfl,rfl,aH.of f.pen,rfl,_,rfl,_,_,rfl,rfl,⟨i,j⟩,_,rfl,p,_,_,_,rfl,rfl,f.pen,rfl,?_⟩;refine⟨_,rfl,k _ _ (ol _ (by omega)) (oj _ i) ⟨l,_,ns,aa,?_,f.at0,Int.ediv_nonneg f.rest0 (by omega)⟩ (ex.trans (dH.upd _ _ _))⟩;rw[ah f.ne];exact f.cells
 refine⟨_,rfl,p,_,2,_,rfl,rfl,aH.of h.pen,rfl,_,rfl,_,_,rfl,rfl,_,rfl,?_⟩;refine tD (fun A=>?_) (fun A=>?_)
 ·-- at=pen[1];cell=0;if at<len(pen[0])
  refine⟨_,rfl,p,_,1,_,rfl,rfl,aH.of h.pen,rfl,?_⟩;have n:(V.int ((ns.map V.int).length:Nat))=V.int (ns.length:Nat):=by rw[ao]
  refine⟨_,rfl,_,rfl,p,_,0,_,rfl,rfl,aH.of h.pen,rfl,.inl ⟨c,_,rfl,.inl (aH.of h.cells),_,_,rfl,n,_,rfl,?_⟩⟩;refine tD (fun u=>?_) (fun u=>?_)
  ·obtain⟨z,o⟩:=AX (ns:=ns) h.at0 (of_decide_eq_true u);refine⟨_,rfl,p,_,0,_,rfl,rfl,aH.of h.pen,rfl,_,rfl,c,_,_,_,rfl,rfl,aH.of h.cells,o,?_⟩;refine⟨_,rfl,_,_,rfl,rfl,_,rfl,p,_,_,_,rfl,rfl,h.pen,rfl,?_⟩;refine⟨_,rfl,_,rfl,_,_,rfl,h.at0,fun q g=>⟨_,rfl,p,_,_,_,rfl,rfl,aa,rfl,?_⟩⟩;rw[kM];refine d _ (a+1) q _ _ ⟨aa,by rw[ah h.ne];exact h.cells,by have:=h.at0;omega,g⟩ (dH.upd _ _ _)
  ·refine⟨_,rfl,p,_,0,_,rfl,rfl,aH.of h.pen,rfl,.inl ⟨c,_,rfl,.inl (aH.of h.cells),_,_,n,rfl,_,rfl,?_⟩⟩;refine tD (fun v=>?_) (fun v=>?_)
   ·have w:(0:Int)<ns.length:=of_decide_eq_true v;obtain⟨z,o⟩:=AX (ns:=ns) (a:=(a * 5+3) % (ns.length:Int)) (ol _ (by omega)) (oj _ w);refine⟨_,rfl,p,_,0,_,rfl,rfl,aH.of h.pen,rfl,_,rfl,_,_,rfl,rfl,nV (by decide) (by decide),_,_,rfl,rfl,_,rfl,p,_,0,_,rfl,rfl,aH.of h.pen,rfl,.inl ⟨c,_,rfl,.inl (aH.of h.cells),_,_,rfl,n,w,c,_,_,_,rfl,rfl,aH.of h.cells,o,?_⟩⟩;refine⟨_,_,rfl,rfl,⟨by decide,by decide,by decide⟩,_,rfl,_,_,rfl,rfl,_,_,rfl,rfl,?_,?_⟩
    ·have e:((10:Int) ^ (17:Int).toNat)=100000000000000000:=by decide
     have:=h.at0;show(0:Int)<10 ^ (17:Int).toNat+a;omega
    refine⟨_,rfl,_,_,rfl,rfl,_,rfl,p,_,_,_,rfl,rfl,h.pen,rfl,?_⟩;refine⟨_,rfl,_,rfl,_,_,rfl,h.at0,fun q g=>⟨_,rfl,p,_,_,_,rfl,rfl,aa,rfl,?_⟩⟩;rw[kM];refine d _ (a+1) q _ _ ⟨aa,by rw[ah h.ne];exact h.cells,by have:=h.at0;omega,g⟩ (dH.upd _ _ _)
   ·refine⟨_,rfl,_,_,rfl,rfl,_,rfl,p,_,_,_,rfl,rfl,h.pen,rfl,?_⟩;refine⟨_,rfl,_,rfl,_,_,rfl,h.at0,fun q g=>⟨_,rfl,p,_,_,_,rfl,rfl,aa,rfl,?_⟩⟩;rw[kM];refine d _ (a+1) q _ _ ⟨aa,by rw[ah h.ne];exact h.cells,by have:=h.at0;omega,g⟩ (dH.upd _ _ _)
 ·exact d H a r _ _ h (dH.refl _ _)
inductive qi(K:Za)(vs:List V)(H:Hp)(Q:VK)(E:XK):Prop
 |mk (a:Addr) (ns:List Int):(vs=[.ref a])->(aH K H a (ns.map V.int))->(ns.length<=63)->(∀(p c:Addr) (H':Hp),H p=none->jV H' p c->af H H'->Q (.ref p) H')->qi K vs H Q E
theorem uy(a:List Int)(lo hi:Option Int):∃d:List Int,lE (a.map V.int) lo hi=d.map V.int/\d.length=(lE (a.map V.int) lo hi).length:=by
 refine⟨(a.drop (HT.sIx (a.map V.int).length 0 lo)).take (HT.sIx (a.map V.int).length (a.map V.int).length hi-HT.sIx (a.map V.int).length 0 lo),?_,?_⟩
 ·unfold lE;rw[List.map_take,List.map_drop]
 ·unfold lE;rw[bf,bf,jt,jt,ao]
theorem Ev{K:Za}{vs:List V}{H:Hp}{Q:VK}{E:XK}(h:qi K vs H Q E):yh K (bJ Q) (start zG vs) H:=by
 obtain⟨a,n,rfl,hs,hn,k⟩:=h;obtain⟨C,e0,l0⟩:=uy n none (some 12);obtain⟨A,e1,l1⟩:=uy n (some 12) (some 63);have D:A≠[]->C.length=12:=by
  intro J;have j:0<A.length:=by cases A with|nil=>exact absurd rfl J|cons _ _=>simp
  rw[l1]at j;rw[l0];unfold lE at j ⊢;rw[bf,jt,ao]at j;rw[bf,jt,ao];have s1:HT.sIx n.length 0 (some 12)=min 12 n.length:=HT.sIx_nat _ _ 12;have s2:HT.sIx n.length n.length (some 12)=min 12 n.length:=HT.sIx_nat _ _ 12;rw[HT.sIx_none,s2];rw[s1]at j;omega
 refine⟨_,rfl,_,rfl,a,_,rfl,hs,fun q hq=>.inl ⟨q,_,rfl,.inl (aH.of aa),fun c B=>?_⟩⟩;rw[e0]at B ⊢;have L:H c=none:=by
  have:c≠q:=fun z=>by subst z;rw[aa]at B;cases B
  rw[ah this]at B;exact B
 have hS:af H (upd (upd H q (.lst (C.map V.int))) c (.lst (C.map V.int))):=(af.new hq).trans (af.new B);refine⟨_,rfl,_,rfl,_,rfl,a,_,rfl,hS.seq hs,fun r M=>⟨r,rfl,⟨_,aH.of aa⟩,?_⟩⟩;rw[e1];have N:c≠r:=ae aa M
 let O:Nat->L2.St->Hp->Prop:=fun i σ s=>GZ fun(g:List Int) (x y:Option V)=>G0 (σ=[some (.ref a),some (.ref c),x,y]) (s c=some (.lst (g.map V.int))) (g.length=C.length) (s r=some (.lst (A.map V.int))) (af H s)
 refine nR (xs:=A.map V.int) O
  ⟨C,none,none,rfl,kp aa M,rfl,aa,hS.trans (af.new M)⟩ (fun i σ s _ zq=>by obtain⟨g,x,y,_,_,_,h,_⟩:=zq;exact aH.of h) ?_ ?_
 ·rintro i x σ s t hi ⟨g,u,v,rfl,d,G,I,l⟩ T;have w:i<A.length:=by
   have:=(gE.mp hi).1;rwa[ao]at this
  have ab:=D (fun z=>by rw[z]at w;simp at w);obtain⟨z,rfl⟩:∃z,x=V.int z:=by
   rw[cX,bZ w]at hi;exact⟨_,(eJ hi).symm⟩
  have f:upd s t (.tup [.int i,.int z]) c=some (.lst (g.map V.int)):=kp d T;have m:(i:Int) % 12=((i % 12:Nat):Int):=by omega
  have U:i % 12<g.length:=by omega
  refine⟨t,_,rfl,cj.of aa,rfl,_,_,rfl,_,_,rfl,rfl,?_⟩;have Y:xO (g.map V.int) ((i:Int) % 12)=some (.int g[i % 12]):=by rw[m];exact cM (by simp[U])
  refine⟨_,rfl,_,rfl,_,_,rfl,rfl,(by show(0:Int)<12;decide),c,_,_,_,rfl,rfl,aH.of f,Y,_,rfl,_,_,rfl,rfl,_,rfl,_,rfl,_,_,rfl,rfl,(by show(0:Int)<12;decide),c,_,_,i % 12,rfl,rfl,f,?_,?_⟩
  ·rw[m];unfold FJ;rw[if_pos (by omega),if_pos (by rw[ao];omega)];rw[eW]
  ·refine⟨g.set (i % 12) (g[i % 12]+z),_,_,rfl,?_,by rw[List.length_set];exact G,?_,?_⟩
   ·rw[aa,List.map_set]
   ·rw[ah N.symm];exact kp I T
   ·intro b o e;rw[ah (ae e L)];exact kp (l b o e) T
 ·rintro σ s ⟨g,x,y,rfl,d,G,I,l⟩;refine⟨_,rfl,(by show 3<=aj;decide),fun p hp=>k p c _ (l.free hp) ⟨0,0,g,aa,kp d hp,Int.le_refl _,Int.le_refl _⟩ (l.trans (af.new hp))⟩
def kA(c:Nat):Prop:=97<=c/\c<=122
structure mO(w:Str):Prop where
 lo:1<=w.length
 hi:w.length<=8
 al:∀c∈w.cps.toList,kA c
theorem AY:∀n:Nat,n<26->(("abcdefghijklmnopqrstuvwxyz":Str).cps.toList)[n]?=some (97+n):=by decide +kernel
theorem qA:("abcdefghijklmnopqrstuvwxyz":Str).length<=aj:=by decide +kernel
theorem v7{r:Int}(a:0<=r)(d:r<26):xO (("abcdefghijklmnopqrstuvwxyz":Str).cps.toList) r=some (97+r.toNat):=by
 obtain⟨n,rfl⟩:=jZ a;rw[eW];exact cM (AY n (by omega))
theorem tw(d:List Nat):∀a:Array Nat,((d.map fun c=>(⟨#[c]⟩:Str)).foldl (fun a p=>a++("":Str).cps++p.cps) a).toList=a.toList++d:=by
 have e:("":Str).cps=#[]:=by decide +kernel
 induction d with
 |nil=>intro a;simp
 |cons c d f =>
  intro a;rw[bg,List.foldl_cons,f,e];simp
theorem y6(a:List Nat):(uX "" (a.map fun c=>(⟨#[c]⟩:Str))).cps.toList=a:=by
 unfold uX aS.Str.glued;cases a with
 |nil=>rfl
 |cons c a =>
  rw[bg];show((a.map fun c=>(⟨#[c]⟩:Str)).foldl (fun d p=>d++("":Str).cps++p.cps) #[c]).toList=_;rw[tw]
  rfl
theorem Ag{a b:Str}(h:a.cps.toList=b.cps.toList):a=b:=by
 cases a with|mk x=>cases b with|mk y=>exact congrArg Str.mk (Array.toList_inj.mp h)
theorem cx(a:Str):a.length=a.cps.toList.length:=by simp[Str.length]
theorem lf(a b:Str):(a++b).cps.toList=a.cps.toList++b.cps.toList:=by
 show(a.cps++b.cps).toList=_;simp
theorem zh(z:Str)(m:Nat):(pV z none (some (m:Int))).cps.toList=z.cps.toList.take m:=by
 unfold pV;rw[HT.sIx_none,HT.sIx_nat,qV,Nat.sub_zero,cx];show List.take _ _=_;rw[List.take_eq_take_iff];omega
theorem DH(z:Str)(m:Nat):(pV z (some (m:Int)) none).cps.toList=z.cps.toList.drop m:=by
 unfold pV;rw[HT.sIx_none,HT.sIx_nat,cx];show List.take _ _=_;rw[List.take_of_length_le (by rw[jt];omega)];by_cases h:m<=z.cps.toList.length
 ·rw[Nat.min_eq_left h]
 ·rw[Nat.min_eq_right (by omega),List.drop_length,uU (by omega)]
def dS(way size k:Nat):Nat:=(size+k * (way % 2)) % 8
def xT(way m:Nat):Nat:=if way=0 then 0 else if way=1 then m else m / 2
def lL(b:List Nat)(way turn size k:Nat):List Nat :=
 (b.take (dS way size k)).take (xT way (dS way size k))++[97+(turn+3 * k) % 26]++(b.take (dS way size k)).drop (xT way (dS way size k))
def wu(b:List Nat)(way turn size k:Nat):Str:=⟨(lL b way turn size k).toArray⟩
theorem oM{b:List Nat}(e:b.length=7)(d turn a k:Nat):(lL b d turn a k).length=dS d a k+1:=by
 have f:dS d a k<8:=eP _ (by decide);unfold lL;rw[aL,aL,bf,jt,bf,e];have:xT d (dS d a k)<=dS d a k:=by unfold xT;split;omega;split;omega;omega
 simp;omega
theorem Ed{b:List Nat}(h:b.length=7)(f:∀c∈b,kA c)(d turn a k:Nat):mO (wu b d turn a k):=by
 have i:dS d a k<8:=eP _ (by decide);have g:=oM h d turn a k;have e:(wu b d turn a k).cps.toList=lL b d turn a k:=by simp[wu]
 refine⟨?_,?_,?_⟩
 ·rw[cx,e];omega
 ·rw[cx,e];omega
 ·rw[e];intro c hc;unfold lL at hc;rcases bM.mp hc with hc|hc
  ·rcases bM.mp hc with hc|hc
   ·exact f c (gj (gj hc))
   ·have:c=97+(turn+3 * k) % 26:=by simpa using hc
    subst this;have:(turn+3 * k) % 26<26:=eP _ (by decide);exact⟨by omega,by omega⟩
  ·exact f c (gj (List.mem_of_mem_drop hc))
theorem B9{b:List Nat}(f:b.length=7){d turn a:Nat}(r:d<3){j k:Nat}(t:j<26)(u:k<26)(h:wu b d turn a j=wu b d turn a k):j=k:=by
 have n:∀i,dS d a i<8:=fun i=>eP _ (by decide);have e:lL b d turn a j=lL b d turn a k:=by
  have:=congrArg (fun s=>Str.cps s |>.toList) h;simpa[wu]using this
 have o:dS d a j=dS d a k:=by
  have:=congrArg List.length e;rw[oM f,oM f]at this;omega
 have p:97+(turn+3 * j) % 26=97+(turn+3 * k) % 26:=by
  have g:∀i,xT d (dS d a i)<=dS d a i:=fun i=>by unfold xT;split;omega;split;omega;omega
  have get:∀i,(lL b d turn a i)[xT d (dS d a i)]?=some (97+(turn+3 * i) % 26):=by
   intro i;unfold lL;have q:((b.take (dS d a i)).take (xT d (dS d a i))).length=xT d (dS d a i):=by
    rw[bf,bf,f];have:=n i;have:=g i;omega
   rw[g6,oJ (by omega),q,Nat.sub_self]
   rfl
  have l:=get j;have m:=get k;rw[e,o]at l;rw[l]at m;exact eJ m
 omega
def iJ(ws:Zb):Prop:=ws.Nodup/\∀w∈ws,mO w
def jv(b:List Nat)(way turn size n:Nat):List Str:=(bO n).map (wu b way turn size)
theorem xZ{b:List Nat}(f:b.length=7)(g:∀c∈b,kA c){a turn d n:Nat}(i:a<3)(p:n<=26):iJ (jv b a turn d n):=by
 refine⟨?_,fun w l=>?_⟩
 ·unfold jv;rw[jY,uK];refine(List.nodup_range (n:=n)).imp_of_mem ?_;intro j k m o e h;exact e (B9 f i (by have:=i8.mp m;omega) (by have:=i8.mp o;omega) h)
 ·obtain⟨k,_,rfl⟩:=ay.mp l;exact Ed f g _ _ _ _
inductive nj (vs:List V)(H:Hp)(Q:VK)(E:XK):Prop
 |mk (p c:Addr) (n:Nat):(vs=[.ref p,.int n])->(jV H p c)->(n<=26)->(∀(l:Addr) (ws:Zb) (H':Hp),iJ ws->ws.length=n->H l=none->H' l=some (.lst (ws.map V.str))->jV H' p c->dH p H H'->Q (.ref l) H')->nj  vs H Q E
theorem Cy{K:Za}{A:List V}{H:Hp}{Q:VK}{E:XK}(h:nj A H Q E):wC K jx (bJ Q) (start xR A) H:=by
 obtain⟨p,c,n,rfl,C,hn,k⟩:=h;refine⟨rfl,7,rfl,by decide,by decide,fun l I=>?_⟩
 let as:Nat->List V->Hp->Prop:=fun i A u=>∃o:List Nat,A=o.map (fun c=>V.str ⟨#[c]⟩)/\o.length=i/\(∀c∈o,kA c)/\jV u p c/\dH p H u/\u l=some (.lst A)
 refine sv (lo:=0) (n:=Int.toNat 7) as
  ⟨[],rfl,rfl,(fun _ h=>nomatch h),C.ex (af.new I),dH.new I,aa⟩ (fun i A u _ zq=>by obtain⟨_,_,_,_,_,_,h⟩:=zq;exact h) ?_ ?_
 rotate_left
 ·rintro i A u hi ⟨o,rfl,g,w,v,aC,aN⟩;have J:=C.nep I;have aT:=C.nec I;refine gN (xY ?_);refine⟨_,rfl,_,rfl,jw v (by decide) (by decide) fun r H2 h0 h1 D s=>⟨_,r,_,rfl,rfl,qA,v7 h0 h1,?_⟩⟩;have aX:=s l _ aN J.symm;refine⟨aX,by rw[ao,g];exact av (by omega),AC hi ⟨o++[97+r.toNat],by rw[aD];rfl,by rw[aL,g];rfl,?_,D.upd J aT,?_,aa⟩⟩
  ·intro x hc;rcases bM.mp hc with hc|hc
   ·exact w x hc
   ·have:x=97+r.toNat:=by simpa using hc
    subst this;exact⟨by omega,by omega⟩
  ·intro b o' e nb;rw[ah (ae e I)];exact s b o' (aC b o' e nb) nb
 ·rintro A H1 ⟨o,rfl,g,w,a0,L,a4⟩;refine⟨"",l,o.map fun c=>(⟨#[c]⟩:Str),rfl,rfl,aH.of (by rw[a4,eO];rfl),?_,?_⟩
  ·have e0:("":Str).length=0:=by decide +kernel
   rw[e0,Nat.mul_zero,eO];have:∀o:List Nat,(o.map ((fun x=>Str.length x) ∘ fun c=>(⟨#[c]⟩:Str))).sum=o.length:=by
    intro o
    induction o with
    |nil=>rfl
    |cons c o ih=>rw[bg,uJ,ih,dj];show 1+_=_;omega
   rw[this,g];decide
  refine⟨_,rfl,jw a0 (by decide) (by decide) fun bd H2 w0 w1 D s=>?_⟩;refine⟨_,rfl,jw D (by decide) (by decide) fun turn H3 t0 t1 a5 M=>?_⟩;refine⟨_,rfl,jw a5 (by decide) (by decide) fun a9 H4 s0 s1 N O=>?_⟩;have T:dH p H H4:=((L.trans s).trans M).trans O;obtain⟨j,rfl⟩:=jZ w0;obtain⟨G,rfl⟩:=jZ t0;obtain⟨sz,rfl⟩:=jZ s0;have hb:=y6 o;generalize uX "" (o.map fun c=>(⟨#[c]⟩:Str))=base at hb ⊢;refine⟨(by show 0<=aj;decide),fun f hf=>?_⟩;obtain⟨op,a6⟩:=N.pen;have y:H f=none:=T.free a6 hf;have U:=C.nep y;have Y:=C.nec y;refine⟨_,rfl,n,rfl,by omega,by omega,k7 (lo:=0) (n:=((n:Int)).toNat) (fun i σ u=>∃(a b c' d:Option V),σ=[some (.ref p),some (.int n),some (.str "abcdefghijklmnopqrstuvwxyz"),some (.str base),some (.int j),some (.int G),some (.int sz),some (.ref f),a,b,c',d] /\
   jV u p c/\dH p H u/\u f=some (.lst ((jv o j G sz i).map V.str)))
   ⟨_,_,_,_,rfl,N.upd U Y,T.trans (dH.new hf),aa⟩ ?_ ?_⟩
  ·rintro i σ u hi ⟨a,b,c',d,rfl,v,t,z⟩;have bi:i<n:=by omega
   have bl:j<3:=by omega
   have a7:((G:Int)+3 * (0+(i:Int))) % 26=(((G+3 * i) % 26:Nat):Int):=by omega
   refine⟨_,rfl,_,rfl,_,rfl,_,_,rfl,rfl,.inl ⟨by decide,by decide⟩,_,_,rfl,rfl,_,_,rfl,rfl,(by show(0:Int)<26;decide),_,_,_,rfl,rfl,qA,v7 (ol _ (by decide)) (oj _ (by decide)),?_⟩;have ab:base.length<=aj:=by rw[cx,hb,g];decide
   have e8:((sz:Int)+(0+(i:Int)) * ((j:Int) % 2)) % 8=((dS j sz i:Nat):Int):=by
    unfold dS;have:j=0∨j=1∨j=2:=by omega
    rcases this with rfl|rfl|rfl<;>simp<;>omega
   refine⟨_,rfl,_,rfl,_,rfl,_,rfl,_,_,rfl,rfl,(by show(0:Int)<2;decide),_,_,rfl,rfl,.inr ⟨by omega,by omega⟩,_,_,rfl,rfl,_,_,rfl,rfl,(by show(0:Int)<8;decide),_,rfl,base,rfl,ab,?_⟩;rw[e8];have m:=zh base (dS j sz i);rw[hb]at m;generalize pV base none (some ((dS j sz i:Nat):Int))=part at m ⊢;have h8:dS j sz i<8:=eP _ (by decide);have B:part.length=dS j sz i:=by rw[cx,m,bf,g];omega
   have pz:part.length<=aj:=by rw[B];exact dB (av (by omega))
   refine⟨_,rfl,.inr ⟨part,rfl,pz,_,rfl,.inr ⟨part,rfl,pz,_,_,rfl,rfl,⟨by decide,by decide⟩,(by show 3<=aj;decide),fun q hq=>?_⟩⟩⟩;have al:H q=none:=by
    obtain⟨bm,an⟩:=v.pen;exact t.free an hq
   have a8:xO [V.int 0,V.int (part.length:Nat),V.int ((part.length:Int) / 2)] (j:Int)=some (.int (xT j (dS j sz i):Nat)):=by
    rw[B];have:j=0∨j=1∨j=2:=by omega
    rcases this with rfl|rfl|rfl
    ·rfl
    ·rfl
    ·show some (V.int (((dS 2 sz i:Nat):Int) / 2))=some (V.int ((xT 2 (dS 2 sz i):Nat):Int));have:xT 2 (dS 2 sz i)=dS 2 sz i / 2:=rfl;rw[this];congr 2
   refine⟨_,rfl,q,_,_,_,rfl,rfl,aH.of aa,a8,?_⟩;have ap:upd u q (.lst [V.int 0,V.int (part.length:Nat),V.int ((part.length:Int) / 2)]) f=some (.lst ((jv o j G sz i).map V.str)):=kp z hq;have c1:=zh part (xT j (dS j sz i));have c2:=DH part (xT j (dS j sz i));have l1:(pV part none (some ((xT j (dS j sz i):Nat):Int))).length<=8:=by rw[cx,c1,bf,m,bf,g];omega
   have l2:(pV part (some ((xT j (dS j sz i):Nat):Int)) none).length<=8:=by rw[cx,c2,jt,m,bf,g];omega
   refine⟨_,rfl,.inl ⟨rfl,_,aH.of ap⟩,_,rfl,_,rfl,_,rfl,part,rfl,pz,_,rfl,_,_,rfl,rfl,?_,_,rfl,_,rfl,_,rfl,part,rfl,pz,_,_,rfl,rfl,?_,f,_,_,rfl,rfl,ap,?_,?_⟩
   ·have:Str.length ⟨#[97+(((G:Int)+3 * (0+(i:Int))) % 26).toNat]⟩=1:=rfl;rw[this];exact dB (av (by omega))
   ·rw[cx,lf,aL,<-cx,<-cx];have:Str.length ⟨#[97+(((G:Int)+3 * (0+(i:Int))) % 26).toNat]⟩=1:=rfl;rw[this];exact dB (av (by omega))
   ·rw[ao];unfold jv;rw[ao,j3];exact av (by omega)
   ·refine⟨_,_,_,_,rfl,(v.upd (C.nep al) (C.nec al)).upd U Y,?_,?_⟩
    ·intro b' o' e nb;rw[ah (ae e y)];exact kp (t b' o' e nb) hq
    ·rw[aa];unfold jv;rw[List.range_succ,aD,aD];congr 3;show[V.str _]=[V.str _];congr 2;refine Ag ?_;rw[lf,lf,c1,c2,m,a7,eW];simp[wu,lL]
  ·rintro σ u ⟨a,b,c',d,rfl,v,t,z⟩;have en:((n:Int)).toNat=n:=by omega
   rw[en]at z;exact⟨_,rfl,k f _ u (xZ g w (by omega) hn) (by unfold jv;rw[ao,j3]) y z v t⟩
structure au where
 a:Str
 sg:List Str
 b:Str
deriving DecidableEq
def SignAt(H:Hp)(s:Addr)(sg:Zb):Prop:=H s=some (.tup (sg.map V.str))
def ii(H:Hp)(t:Addr)(d:au):Prop:=∃s,H t=some (.tup [.str d.a,.ref s,.str d.b])/\SignAt H s d.sg
def lg(H H':Hp):Prop:=∀b xs,H b=some (.tup xs)->H' b=some (.tup xs)
theorem ii.kt{H H':Hp}{t:Addr}{d:au}(k:lg H H')(h:ii H t d):ii H' t d:=by
 obtain⟨s,a,e⟩:=h;exact⟨s,k _ _ a,k _ _ e⟩
theorem dH.kt{p:Addr}{H a:Hp}{xs:List V}(e:dH p H a)(d:H p=some (.lst xs)):lg H a:=fun b f h=>e b _ h (fun z=>by rw[z,d]at h;cases h)
theorem af.kt{H a:Hp}(e:af H a):lg H a:=fun b d h=>e b _ h
theorem lg.trans{H d e:Hp}(a:lg H d)(b:lg d e):lg H e:=fun x xs h=>b x xs (a x xs h)
theorem kC{H:Hp}{l:Addr}{xs:List V}{o:HO}(h:H l=some (.lst xs)):lg H (upd H l o):=fun b a e=>by
 rw[ah (fun z=>by rw[z,h]at e;cases e)];exact e
abbrev dv(H:Hp)(ts:Ze)(ds:List au):Prop:=Paired (ii H) ts ds
theorem Paired.get{α β:Type}{R:α->β->Prop}{xs:List α}{a:List β}{i:Nat}{y:β}(g:Paired R xs a)(h:a[i]?=some y):∃x,xs[i]?=some x/\R x y:=by
 induction g generalizing i with
 |nil=>cases h
 |cons r _ d =>
  cases i with
  |zero=>injection h with h;subst h;exact⟨_,rfl,r⟩
  |succ i=>exact d h
theorem Paired.getL{α β:Type}{R:α->β->Prop}{xs:List α}{a:List β}{i:Nat}{x:α}(g:Paired R xs a)(h:xs[i]?=some x):∃y,a[i]?=some y/\R x y:=by
 induction g generalizing i with
 |nil=>cases h
 |cons r _ d =>
  cases i with
  |zero=>injection h with h;subst h;exact⟨_,rfl,r⟩
  |succ i=>exact d h
theorem dv.kt{H H':Hp}{a:Ze}{d:List au}(k:lg H H')(h:dv H a d):dv H' a d:=Paired.mapP h fun _ _ r=>r.kt k
def BZ(x:Str):DT:=.k (.inr x)
theorem Er{x y:Str}(h:BZ x=BZ y):x=y:=by
 unfold BZ at h;injection h with h;injection h
theorem pJ:∀{x y:Zb},x.map BZ=y.map BZ->x=y
 |[],[],_=>rfl
 |[],_::_,h=>by cases h
 |_::_,[],h=>by cases h
 |a::x,b::y,h=>by
  rw[bg,bg]at h;injection h with d e;rw[Er d,pJ e]
theorem DA(xs:Zb):DT.depths (xs.map BZ)=0:=by
 induction xs with
 |nil=>rfl
 |cons x xs a=>rw[bg];show max (DT.depth (BZ x)) (DT.depths _)=0;rw[a];rfl
theorem DG{K:Za}{H:Hp}:∀xs:List Str,DIns K H (xs.map BZ) (xs.map V.str)
 |[]=>by show DIns K H [] [];unfold DIns;rfl
 |x::xs=>by
  rw[bg,bg];unfold DIns;refine⟨_,_,rfl,?_,DG xs⟩;unfold BZ lH
  rfl
theorem jm{K:Za}{H:Hp}{s:Addr}{a:Zb}(h:cj K H s (a.map V.str)):lH K H (.t (a.map BZ)) (.ref s):=by
 unfold lH;exact⟨s,_,rfl,h,DG _⟩
section
variable{R:au->Prop}{H0 H H':Hp}{p c l:Addr}{m:Nat}
theorem jV.lst{H:Hp}{p c:Addr}(h:jV H p c):∃xs,H p=some (.lst xs):=by
 obtain⟨a,r,e,d,_⟩:=h;exact⟨_,d⟩
end
theorem jV.ne_strs{H:Hp}{p c a:Addr}{f:Zb}(g:jV H p c)(d:H a=some (.lst (f.map V.str))):a≠p:=by
 intro e;obtain⟨x,y,i,h,_⟩:=g;rw[e,h]at d;injection d with d;injection d with d;cases f with
 |nil=>cases d
 |cons w f=>injection d with d;cases d
def aA:List Str:=[("still":Str)]
structure FX(J0 J1 rooms:Zb)(d:au):Prop where
 a:d.a∈rooms
 b:d.b∈rooms
 sg:(∃w∈J0,d.sg=[("ask":Str),w])∨(∃w∈J1,d.sg=[("say":Str),w])∨d.sg=aA
inductive Reach(ds:List au)(a:Str):Str->Prop
 |one {b:Str}(h:(⟨a,aA,b⟩:au)∈ds):Reach ds a b
 |step {b c:Str}(r:Reach ds a b) (h:(⟨b,aA,c⟩:au)∈ds):Reach ds a c
theorem BN(a:Zb)(k:Nat):lE (a.map V.str) (some (k:Int)) none=(a.drop k).map V.str:=by
 unfold lE;rw[HT.sIx_none,HT.sIx_nat,ao,List.take_of_length_le (by rw[jt,ao];omega),List.map_drop];by_cases h:k<=a.length
 ·rw[Nat.min_eq_left h]
 ·rw[Nat.min_eq_right (by omega),uU (by simp),uU (by rw[ao];omega)]
theorem AV(a:Zb)(k:Nat):lE (a.map V.str) none (some (k:Int))=(a.take k).map V.str:=by
 unfold lE;rw[HT.sIx_none,HT.sIx_nat,ao,qV,Nat.sub_zero,List.map_take,List.take_eq_take_iff,ao];omega
structure fm(J0 J1 rooms:Zb)(ds:List au):Prop where
 okA:iJ J0
 okS:iJ J1
 apart:∀w∈J1,w∉J0
 okR:iJ rooms
 asks0:J0≠[]
 says0:J1≠[]
 rooms0:rooms≠[]
 asks4:J0.length<=4
 says4:J1.length<=4
 rooms26:rooms.length<=150
 nodup:ds.Nodup
 good:∀d∈ds,FX J0 J1 rooms d
 few:ds.length<=1000
 noround:∀r,¬Reach ds r r
structure BS(H:Hp)(t l1 l2 l3 l4:Addr)(ts:Ze)(J0 J1 rooms:Zb)(ds:List au):Prop where
 t:H t=some (.tup [.ref l1,.ref l2,.ref l3,.ref l4])
 a1:H l1=some (.lst (J0.map V.str))
 a2:H l2=some (.lst (J1.map V.str))
 a3:H l3=some (.lst (rooms.map V.str))
 a4:H l4=some (.lst (ts.map V.ref))
 ds:dv H ts ds
theorem jV.ne_refs{H:Hp}{p c a:Addr}{f:Ze}(h:jV H p c)(d:H a=some (.lst (f.map V.ref))):a≠p:=by
 intro e;obtain⟨x,y,j,i,_⟩:=h;rw[e,i]at d;injection d with d;injection d with d;cases f with
 |nil=>cases d
 |cons w g =>
  injection d with _ d;cases g with
  |nil=>cases d
  |cons w g=>injection d with d;cases d
theorem BS.same{H a:Hp}{t d f l3 g:Addr}{i:Ze}{j k rooms:Zb}{l:List au}(h:BS H t d f l3 g i j k rooms l)(e:af H a):BS a t d f l3 g i j k rooms l :=
 ⟨e _ _ h.t,e _ _ h.a1,e _ _ h.a2,e _ _ h.a3,e _ _ h.a4,h.ds.kt (af.kt e)⟩
theorem cw{a:Zb}{i:Nat}{x:V}(h:(a.map V.str)[i]?=some x):∃w,a[i]?=some w/\x=.str w:=by
 rw[cX]at h;cases q:a[i]? with
 |none=>rw[q]at h;cases h
 |some r=>rw[q]at h;exact⟨r,rfl,(eJ h).symm⟩
theorem take_snoc{α:Type}{a:List α}{i:Nat}{w:α}(h:a[i]?=some w):a.take (i+1)=a.take i++[w]:=by
 obtain⟨hi,rfl⟩:=gE.mp h;rw[List.take_succ_eq_append_getElem hi]
def nJ(w:Str):Bool:=!decide (w=("":Str)) && (decide (w.length<=8) && w.cps.toList.all fun c=>decide (c∈("abcdefghijklmnopqrstuvwxyz":Str).cps.toList))
theorem mO.b{w:Str}(h:mO w):nJ w=true:=by
 unfold nJ;have a:¬(w=("":Str)):=fun e=>by
  have:=h.lo;rw[e]at this;exact absurd this (by decide +kernel)
 rw[zzr0 a,zzr1 h.hi,Bool.not_false,qF,qF,List.all_eq_true];intro c d;obtain⟨f,g⟩:=h.al c d;refine zzr1 ?_;have:=AY (c-97) (by omega);have e:97+(c-97)=c:=by omega
 rw[e]at this;exact gp this
inductive sp_is_name (vs:List V)(H:Hp)(Q:VK)(E:XK):Prop
 |mk (w:Str):(vs=[.str w])->(w.length<=1000)->(∀H',af H H'->Q (.bl (nJ w)) H')->sp_is_name  vs H Q E
theorem yC{K:Za}{a:List V}{H:Hp}{Q:VK}{E:XK}(h:sp_is_name a H Q E):A9 K (bJ Q) (start BV a) H:=by
 obtain⟨w,rfl,r,k⟩:=h;refine⟨_,rfl,rfl,_,rfl,?_⟩;have s:(!decide (V.str w=V.str ("":Str)))=!decide (w=("":Str)):=by
  congr 1;by_cases e:w=("":Str)
  ·rw[zzr1 e,zzr1 (by rw[e])]
  ·rw[zzr0 e,zzr0 (fun z=>e (by injection z))]
 rw[s];refine tD (fun j=>?_) (fun j=>?_)
 ·refine⟨_,rfl,.inr ⟨w,rfl,dB (av r),_,_,rfl,rfl,_,rfl,?_⟩⟩;refine tD (fun m=>?_) (fun m=>?_)
  ·refine⟨_,rfl,w,rfl,fun l q=>?_⟩
   let n:Nat->List V->Hp->Prop:=fun i a g=>a=((w.cps.toList.take i).map fun c=>V.bl (decide (c∈("abcdefghijklmnopqrstuvwxyz":Str).cps.toList)))/\af H g/\g l=some (.lst a)
   refine DJ n
    ⟨rfl,af.new q,aa⟩ (fun i a g _ h=>h.2.2) ?_ ?_
   ·rintro a g ⟨rfl,p,d⟩;refine⟨l,w.cps.toList.map fun c=>decide (c∈("abcdefghijklmnopqrstuvwxyz":Str).cps.toList),rfl,aH.of ?_,?_⟩
    ·rw[d,eO];have:w.cps.toList.take w.cps.size=w.cps.toList:=by
      rw[List.take_of_length_le];simp
     rw[this]
     rfl
    ·have:=k g p;have f:decide (w.length<=8)=true:=zzr1 (by have:=of_decide_eq_true m;omega);unfold nJ at this;rw[j,f,qF,qF]at this;rw[List.all_map];exact this
   ·rintro i a g c t hi ⟨rfl,p,d⟩;refine gN (xY ?_);refine⟨_,rfl,c,_,rfl,rfl,d,?_,AC hi ⟨?_,?_,aa⟩⟩
    ·rw[ao,bf];have:w.length=w.cps.toList.length:=cx w;exact av (by omega)
    ·rw[take_snoc (by rw[<-t];simp),aD]
     rfl
    ·intro b o e;rw[ah (ae e q)];exact p b o e
  ·have:=k H (af.refl H);have f:decide (w.length<=8)=false:=zzr0 (fun z=>m (zzr1 (by omega)));unfold nJ at this;rw[j,f,qF,Bool.false_and]at this;exact this
 ·have:=k H (af.refl H);unfold nJ at this;rw[Bool.eq_false_iff.mpr j,Bool.false_and]at this;exact this
def aI(ws:Zb):List (dg×V):=ws.foldl (fun acc w=>dI acc (.inr w) (.bl true)) []
theorem cW(a:Zb)(w:Str):aI (a++[w])=dI (aI a) (.inr w) (.bl true):=by
 unfold aI;rw[qE]
 rfl
theorem wY{κ:Type}[DecidableEq κ](a:List (κ×V))(k:κ)(v:V):(dI a k v).length<=a.length+1:=by
 unfold dI;split
 ·rw[ao];omega
 ·rw[aL];exact az _
theorem jb{α:Type}(P:List α->Prop)(d:P [])(e:∀ws w,P ws->P (ws++[w]))(ws:List α):P ws:=by
 have:∀n (ws:List α),ws.length=n->P ws:=by
  intro n
  induction n with
  |zero=>intro ws h;rw[List.length_eq_zero_iff.mp h];exact d
  |succ n f =>
   intro ws h;have a:ws≠[]:=fun z=>by rw[z]at h;cases h
   rw[<-List.dropLast_concat_getLast a];exact e _ _ (f _ (by rw[List.length_dropLast,h];rfl))
 exact this _ ws rfl
theorem jF(a:Zb):(aI a).length<=a.length:=by
 refine jb (fun a=>(aI a).length<=a.length) (az _) (fun a w h=>?_) a;show(aI (a++[w])).length<=(a++[w]).length;rw[cW,aL];have:=wY (aI a) (.inr w) (.bl true);show _<=a.length+1;omega
theorem se(a:Zb)(x:Str):bL (aI a) (.inr x)=if x∈a then some (.bl true)else none:=by
 refine jb (fun a=>bL (aI a) (.inr x)=if x∈a then some (.bl true)else none) rfl (fun a w h=>?_) a
 show bL (aI (a++[w])) (.inr x)=_;rw[cW,wv,h];by_cases e:x=w
 ·subst e;rw[if_pos rfl,if_pos (by simp)]
 ·have d:¬((Sum.inr x:dg)=.inr w):=fun z=>e (by injection z);rw[if_neg d];by_cases m:x∈a
  ·rw[if_pos m,if_pos (eM _ m)]
  ·rw[if_neg m,if_neg (fun z=>by rcases bM.mp z with z|z;exact m z;exact e (by simpa using z))]
theorem dO(a:Zb)(x:Str):(bL (aI a) (.inr x)).isSome=decide (x∈a):=by
 rw[se];by_cases m:x∈a
 ·rw[if_pos m,zzr1 m];rfl
 ·rw[if_neg m,zzr0 m];rfl
inductive sp_as_keys(K:Za)(vs:List V)(H:Hp)(Q:VK)(E:XK):Prop
 |mk (l:Addr) (ws:Zb):(vs=[.ref l])->(aH K H l (ws.map V.str))->(ws.length<=1000)->(∀d,H d=none->Q (.ref d) (upd H d (.dK (aI ws))))->sp_as_keys K vs H Q E
theorem yE{K:Za}{o:List V}{H:Hp}{Q:VK}{E:XK}(h:sp_as_keys K o H Q E):A_ K (bJ Q) (start BW o) H:=by
 obtain⟨l,j,rfl,q,t,k⟩:=h;refine fun d p=>?_;have a:∀f,aH K (upd H d (.dK f)) l (j.map V.str):=fun f=>(af.new p).seq q;refine⟨_,rfl,l,rfl,⟨_,a _⟩,?_⟩
 let n:Nat->L2.St->Hp->Prop:=fun i σ m=>∃x,σ=[some (.ref l),some (.ref d),x]/\m=upd H d (.dK (aI (j.take i)))
 refine fk (xs:=j.map V.str) n ⟨_,rfl,rfl⟩ (fun i σ m _ r=>by obtain⟨_,_,e⟩:=r;exact by rw[e];exact a _) ?_ ?_
 ·rintro i x σ m hi ⟨y,rfl,rfl⟩;obtain⟨w,s,rfl⟩:=cw hi;have g:(aI (j.take i)).length<aj:=av (bN (jF _) (by rw[bf];omega));refine⟨_,rfl,_,rfl,d,_,rfl,.inl ⟨_,.inr w,aa,rfl,g,rfl⟩,_,rfl,?_⟩;rw[kM,take_snoc s,cW]
 ·rintro σ m ⟨x,rfl,rfl⟩;rw[ao,bC];exact⟨_,rfl,k d p⟩
def Dm(most:Nat):Nat->List Str->List Str->Option Nat
 |_,_,[]=>none
 |i,ahead,n::ns=>if i=most∨n∈ahead∨nJ n=false then some i else Dm most (i+1) (ahead++[n]) ns
def cg(names:Zb)(most:Nat)(taken:Zb):Option Nat:=if names=[]then some 0 else Dm most 0 taken names
def oV:Option Nat->V
 |none=>.non
 |some i=>.int i
inductive sp_first_wrong_name(K:Za)(vs:List V)(H:Hp)(Q:VK)(E:XK):Prop
 |mk (l t:Addr) (names taken:Zb) (most:Nat):(vs=[.ref l,.int most,.ref t])->(aH K H l (names.map V.str))->(aH K H t (taken.map V.str))->(names.length+taken.length<=1000)->((∀w∈names,w.length<=1000))->(∀H',af H H'->Q (oV (cg names most taken)) H')->sp_first_wrong_name K vs H Q E
theorem pc{K:Za}{H:Hp}{Q:VK}{E:XK}{l:Addr}{ws:Zb}(a:aH K H l (ws.map V.str))(e:ws.length<=1000)(k:∀d,H d=none->Q (.ref d) (upd H d (.dK (aI ws)))):sp_as_keys K [.ref l] H Q E:=by
 exact⟨l,ws,rfl,a,e,k⟩
theorem BC{H:Hp}{Q:VK}{E:XK}{w:Str}(d:w.length<=1000)(k:∀a,af H a->Q (.bl (nJ w)) a):sp_is_name [.str w] H Q E:=by
 exact⟨w,rfl,d,k⟩
theorem lB{K:Za}{M:List V}{H:Hp}{Q:VK}{E:XK}(h:sp_first_wrong_name K M H Q E):me K sp_is_name (sp_as_keys K) (bJ Q) (start mH M) H:=by
 obtain⟨l,t,names,taken,a,rfl,v,U,hz,Y,k⟩:=h;refine⟨_,rfl,.inl ⟨l,_,rfl,.inl v,rfl,_,rfl,?_⟩⟩;by_cases A:names=[]
 ·subst A;refine cZ ?_;have:=k H (af.refl H);exact this
 have e0:decide (V.int ((names.map V.str).length:Nat)=V.int 0)=false:=zzr0 (fun z=>A (by
  injection z with z;rw[ao]at z;exact List.length_eq_zero_iff.mp (by omega)))
 rw[e0];refine cF ?_;have r:∀H',af H H'->Q (oV (Dm a 0 taken names)) H':=by
  unfold cg at k;rw[if_neg A]at k;exact k
 refine⟨_,rfl,pc U (by omega) fun d B=>?_⟩;refine⟨_,rfl,l,rfl,⟨_,(af.new B).seq v⟩,?_⟩
 let C:Nat->L2.St->Hp->Prop:=fun i σ H'=>∃x y,σ=[some (.ref l),some (.int a),some (.ref t),some (.ref d),x,y]/\af H H'/\H' d=some (.dK (aI (taken++names.take i)))/\Dm a i (taken++names.take i) (names.drop i)=Dm a 0 taken names
 refine nR (xs:=names.map V.str) C
  ⟨_,_,rfl,af.new B,by rw[List.take_zero,cp];exact aa,by rw[List.take_zero,cp,qV]⟩ (fun i σ H' _ zq=>by obtain⟨_,_,_,n,_⟩:=zq;exact n.seq v) ?_ ?_
 ·rintro i x σ H' q hi ⟨x4,x5,rfl,n,D,hf⟩ N;obtain⟨w,f,rfl⟩:=cw hi;have G:i<names.length:=(gE.mp f).1;have ed:names.drop i=w::names.drop (i+1):=by
   rw[List.drop_eq_getElem_cons G];congr 1;exact(gE.mp f).2
  rw[ed]at hf;have j:upd H' q (.tup [.int i,.str w]) d=some (.dK (aI (taken++names.take i))):=kp D N;have g:af H (upd H' q (.tup [.int i,.str w])):=n.trans (af.new N);have I:w.length<=1000:=Y w (gp f);refine⟨q,_,rfl,cj.of aa,rfl,_,_,rfl,_,_,rfl,rfl,?_⟩;generalize upd H' q (.tup [.int i,.str w])=O at j g ⊢;refine⟨_,rfl,_,rfl,rfl,_,rfl,?_⟩;by_cases s:i=a
  ·have J:decide (V.int (i:Nat)=V.int (a:Nat))=true:=zzr1 (by rw[s]);rw[J];refine cZ (cZ ?_);refine⟨_,rfl,?_⟩;have:=r O g;rw[<-hf]at this;unfold Dm at this;rw[if_pos (.inl s)]at this;exact this
  have J:decide (V.int (i:Nat)=V.int (a:Nat))=false:=zzr0 (fun z=>s (by injection z with z;omega));rw[J];refine cF ?_;refine⟨_,rfl,_,rfl,d,_,rfl,.inl ⟨_,.inr w,.inl j,rfl,rfl⟩,_,rfl,?_⟩;rw[dO];by_cases u:w∈taken++names.take i
  ·rw[zzr1 u];refine cZ (cZ ?_);refine⟨_,rfl,?_⟩;have:=r O g;rw[<-hf]at this;unfold Dm at this;rw[if_pos (.inr (.inl u))]at this;exact this
  rw[zzr0 u];refine cF ?_;refine⟨_,rfl,BC I fun H3 m=>⟨_,rfl,?_⟩⟩;have L:=m _ _ j;cases T:nJ w with
  |false =>
   refine cZ ?_;refine⟨_,rfl,?_⟩;have:=r H3 (g.trans m);rw[<-hf]at this;unfold Dm at this;rw[if_pos (.inr (.inr T))]at this;exact this
  |true =>
   refine cF ?_;have p:(aI (taken++names.take i)).length<aj:=av (bN (jF _) (by rw[aL,bf];omega));refine⟨_,rfl,_,rfl,d,_,rfl,.inl ⟨_,.inr w,L,rfl,p,rfl⟩,_,_,rfl,?_,?_,?_⟩
   ·intro b o e;rw[ah (ae e B)];exact m _ _ (g _ _ e)
   ·rw[aa,take_snoc f,<-g6,cW]
   ·rw[<-hf,take_snoc f,<-g6]
    conv=>rhs;unfold Dm
    rw[if_neg];rintro(z|z|z)
    ·exact s z
    ·exact u z
    ·rw[T]at z;cases z
 ·rintro σ H' ⟨x,y,rfl,n,_,hf⟩;rw[ao,List.drop_length]at hf;have:=r H' n;rw[<-hf]at this;exact this
theorem xC{a:Nat}:∀(d ahead:Zb) (i:Nat),i+d.length<=a->(ahead++d).Nodup->(∀w∈d,mO w)->Dm a i ahead d=none
 |[],_,_,_,_,_=>rfl
 |n::d,ahead,i,g,e,f=>by
  rw[dj]at g;unfold Dm;rw[if_neg]
  ·refine xC d (ahead++[n]) (i+1) (by omega) (by rw[g6];exact e) fun w h=>f w (cO _ h)
  ·rintro(z|z|z)
   ·omega
   ·rw[cD]at e;exact e.2.2 n z n (b_) rfl
   ·rw[(f n b_).b]at z;cases z
theorem gA{a:Nat}{d taken:Zb}(e:d≠[])(h:d.length<=a)(f:(taken++d).Nodup)(g:∀w∈d,mO w):cg d a taken=none:=by
 unfold cg;rw[if_neg e];exact xC d taken 0 (by omega) f g
theorem gS{n:Nat}(h:n<=9000):n<aj:=rg h (by decide)
def oZ(x:Str):TK:=.k (some (.inr x))
def lD(sg:Zb):TK:=.t (sg.map oZ)
def AU(d:au):TK:=.t [oZ d.a,lD d.sg,oZ d.b]
theorem qq{x y:Str}(h:oZ x=oZ y):x=y:=by
 unfold oZ at h;injection h with h;injection h with h;injection h
theorem pI:∀{x y:Zb},x.map oZ=y.map oZ->x=y
 |[],[],_=>rfl
 |[],_::_,h=>by cases h
 |_::_,[],h=>by cases h
 |a::x,b::y,h=>by
  rw[bg,bg]at h;injection h with d e;rw[qq d,pI e]
theorem nQ{x y:Zb}(h:lD x=lD y):x=y:=by
 unfold lD at h;injection h with h;exact pI h
theorem Fd{x y:au}(h:AU x=AU y):x=y:=by
 unfold AU at h;injection h with h;injection h with a h;injection h with d h;injection h with e h;cases x;cases y;simp only at *;rw[qq a,nQ d,qq e]
theorem yd(xs:Zb):TK.depths (xs.map oZ)=0:=by
 induction xs with
 |nil=>rfl
 |cons x xs a=>rw[bg];show max (TK.depth (oZ x)) (TK.depths _)=0;rw[a];rfl
theorem tW(a:Zb):(lD a).depth=1:=by
 show TK.depths (a.map oZ)+1=1;rw[yd]
theorem tX(d:au):(AU d).depth=2:=by
 show max (TK.depth (oZ d.a)) (max (TK.depth (lD d.sg)) (max (TK.depth (oZ d.b)) 0))+1=2;rw[tW]
 rfl
theorem Ac{H:Hp}:∀xs:List Str,TKAts H (xs.map oZ) (xs.map V.str)
 |[]=>by show TKAts H [] [];unfold TKAts;rfl
 |x::xs=>by
  rw[bg,bg];unfold TKAts;refine⟨_,_,rfl,?_,Ac xs⟩;unfold oZ fx
  rfl
theorem vh{H:Hp}(x:Str):fx H (oZ x) (.str x):=by unfold oZ fx;rfl
theorem SignAt.tk{H:Hp}{s:Addr}{a:Zb}(h:SignAt H s a):fx H (lD a) (.ref s):=by
 unfold lD fx;exact⟨s,_,rfl,h,Ac _⟩
theorem ii.tk{H:Hp}{t:Addr}{d:au}(h:ii H t d):fx H (AU d) (.ref t):=by
 obtain⟨s,a,e⟩:=h;unfold AU fx;refine⟨t,_,rfl,a,?_⟩;unfold TKAts;refine⟨_,_,rfl,vh _,?_⟩;unfold TKAts;refine⟨_,_,rfl,SignAt.tk e,?_⟩;unfold TKAts;refine⟨_,_,rfl,vh _,?_⟩;unfold TKAts
 rfl
section
variable{κ:Type}[DecidableEq κ]
def jS(ks:List κ):List (κ×V):=ks.foldl (fun acc k=>dI acc k (.bl true)) []
theorem mx(a:List κ)(w:κ):jS (a++[w])=dI (jS a) w (.bl true):=by
 unfold jS;rw[qE]
 rfl
theorem BA(a:List κ):(jS a).length<=a.length:=by
 refine jb (fun a=>(jS a).length<=a.length) (az _) (fun a w h=>?_) a;show(jS (a++[w])).length<=(a++[w]).length;rw[mx,aL];have:=wY (jS a) w (.bl true);show _<=a.length+1;omega
theorem Dd(a:List κ)(x:κ):(bL (jS a) x).isSome=decide (x∈a):=by
 refine jb (fun a=>(bL (jS a) x).isSome=decide (x∈a)) rfl (fun a w h=>?_) a;show(bL (jS (a++[w])) x).isSome=_;rw[mx,wv];by_cases e:x=w
 ·subst e;rw[if_pos rfl,zzr1 (by simp)]
  rfl
 ·rw[if_neg e,h];by_cases m:x∈a
  ·rw[zzr1 m,zzr1 (eM _ m)]
  ·rw[zzr0 m,zzr0 (fun z=>by rcases bM.mp z with z|z;exact m z;exact e (by simpa using z))]
end
theorem AG{d:au}{a:List au}:AU d∈a.map AU↔d∈a:=by
 constructor
 ·intro h;obtain⟨x,hx,e⟩:=ay.mp h;rw[<-Fd e];exact hx
 ·exact oh
def mE(K:Za)(H:Hp)(v:V)(sg:Zb):Prop:=∃s,v=.ref s/\cj K H s (sg.map V.str)
theorem af.sqT{K:Za}{H d:Hp}{a:Addr}{xs:List V}(e:af H d)(h:cj K H a xs):cj K d a xs:=by
 rcases h with(h|⟨o,h⟩)|h
 ·exact .inl (.inl (e _ _ h))
 ·exact .inl (.inr ⟨o,e _ _ h⟩)
 ·exact .inr h
theorem Signs.same{K:Za}{H d:Hp}(e:af H d){xs:List V}{a:List (List Str)}(h:Paired (mE K H) xs a):Paired (mE K d) xs a :=
 Paired.mapP h fun _ _ ⟨s,f,g⟩=>⟨s,f,af.sqT e g⟩
def xB(sg:Zb):DT:=.t (sg.map BZ)
theorem AM{x y:Zb}(h:xB x=xB y):x=y:=by
 unfold xB at h;injection h with h;exact pJ h
theorem k9(a:Zb):(xB a).depth=1:=by
 show DT.depths (a.map BZ)+1=1;rw[DA]
theorem BK(a:List (List Str)):DT.depths (a.map xB)<=8:=by
 induction a with
 |nil=>exact dY _
 |cons x xs d=>rw[bg];show max (DT.depth (xB x)) (DT.depths _)<=8;rw[k9];omega
theorem Signs.dIns{K:Za}{H:Hp}{xs:List V}{a:List (List Str)}(h:Paired (mE K H) xs a):DIns K H (a.map xB) xs:=by
 induction h with
 |nil=>show DIns K H [] [];unfold DIns;rfl
 |cons q _ d =>
  obtain⟨s,e,r⟩:=q;rw[bg];unfold DIns;refine⟨_,_,rfl,?_,d⟩;rw[e];exact jm r
theorem AF{d:Zb}{a:List (List Str)}:xB d∈a.map xB↔d∈a:=by
 constructor
 ·intro h;obtain⟨x,hx,e⟩:=ay.mp h;rw[<-AM e];exact hx
 ·exact oh
theorem Paired.app{α β:Type}{R:α->β->Prop}{a:List α}{b:List β}{c:List α}{d:List β}(g:Paired R a b)(h:Paired R c d):Paired R (a++c) (b++d):=by
 induction g with
 |nil=>exact h
 |cons r _ e=>exact .cons r e
def aV(w:Str):List Str:=[("ask":Str),w]
def dD(w:Str):List Str:=[("say":Str),w]
def jl(J0 J1:Zb):List (List Str):=J0.map aV++J1.map dD++[aA]
theorem rP{K:Za}{g:Str}{σ:L2.St}{H:Hp}{a l:Addr}{h:Zb}{Q:Hp->Prop}(A:H a=some (.lst (h.map V.str)))(y:H l=none)(I:h.length<=1000)
  (k:∀(xs:List V) (d:Hp),Paired (mE K d) xs (h.map fun w=>[g,w])->af H d->d l=some (.lst xs)->Q d) :
  ij 1 [] σ (Fn K a) U0 oR (bW (aM (tC (.str g)) V0)) H l Q:=by
 let q:Nat->List V->Hp->Prop:=fun i f d=>Paired (mE K d) f ((h.take i).map fun w=>[g,w])/\af H d/\d l=some (.lst f)
 refine gX (xs:=h.map V.str) q
  ⟨.nil,af.new y,aa⟩ (fun i f d _ B=>by obtain⟨_,C,D⟩:=B;exact⟨D,aH.of (C _ _ A)⟩) ?_ ?_
 ·rintro f d ⟨j,r,m⟩;rw[ao,bC]at j;exact k f d j r m
 ·rintro i f d x hx hi ⟨j,r,m⟩;obtain⟨w,E,rfl⟩:=cw hx;refine gN (xY ?_);refine⟨_,rfl,(by show 2<=aj;decide),fun t n=>⟨kp m n,?_,AC hi ⟨?_,?_,aa⟩⟩⟩
  ·rw[Paired.length j,ao,bf];exact av (by omega)
  ·rw[take_snoc E,aD];have p:lg (upd d t (.tup [.str g,.str w])) (upd (upd d t (.tup [.str g,.str w])) l (.lst (f++[.ref t]))):=kC (kp m n);have u:lg d (upd (upd d t (.tup [.str g,.str w])) l (.lst (f++[.ref t]))):=(af.kt (af.new n)).trans p;refine Paired.app (Paired.mapP j fun v J ⟨s,G,e2⟩=>⟨s,G,?_⟩) (.cons ⟨t,rfl,cj.of (p _ _ aa)⟩ .nil);rcases e2 with(e2|⟨o,e2⟩)|e2
   ·exact .inl (.inl (u _ _ e2))
   ·refine .inl (.inr ⟨o,?_⟩);rw[ah (fun z=>by rw[z,m]at e2;cases e2)];exact kp e2 n
   ·exact .inr e2
  ·intro b o e;rw[ah (ae e y)];exact kp (r _ _ e) n
inductive sp_door_signs(K:Za)(vs:List V)(H:Hp)(Q:VK)(E:XK):Prop
 |mk (l1 l2:Addr) (J0 J1:Zb):(vs=[.ref l1,.ref l2])->(H l1=some (.lst (J0.map V.str)))->(H l2=some (.lst (J1.map V.str)))->(J0.length<=100)->(J1.length<=100)->(∀(l:Addr) (xs:List V) (H':Hp),Paired (mE K H') xs (jl J0 J1)->af H H'->H' l=some (.lst xs)->Q (.ref l) H')->sp_door_signs K vs H Q E
theorem tq{K:Za}{st:Addr}(i:∀H,cj K H st (aA.map V.str)){n:List V}{H:Hp}{Q:VK}{E:XK}(h:sp_door_signs K n H Q E):vo K st (bJ Q) (start wf n) H:=by
 obtain⟨y,z,J,L,rfl,o,p,A,B,k⟩:=h;refine⟨_,rfl,y,rfl,⟨_,aH.of o⟩,fun a C=>?_⟩;refine rP o C (by omega) fun f M q j D=>?_;refine⟨_,rfl,z,rfl,⟨_,aH.of (j _ _ p)⟩,fun b G=>?_⟩;refine rP (j _ _ p) G (by omega) fun g r s l I=>?_;have t:f.length<=100:=by rw[Paired.length q,ao];exact A
 have u:g.length<=100:=by rw[Paired.length s,ao];exact B
 refine⟨a,b,f,g,rfl,rfl,l _ _ D,I,dB (av (by omega)),fun c v=>?_⟩;refine⟨(by show 1<=aj;decide),fun d m=>?_⟩;refine⟨c,d,_,_,rfl,rfl,kp aa m,aa,?_,fun e w=>k e _ _ ?_ ?_ aa⟩
 ·rw[aL];show _+1<=aj;exact dB (av (by omega))
 ·have x:af r (upd (upd (upd r c (.lst (f++g))) d (.lst [.ref st])) e (.lst (f++g++[.ref st]))):=((af.new v).trans (af.new m)).trans (af.new w);exact Paired.app (Paired.app (Signs.same (l.trans x) q) (Signs.same x s)) (.cons ⟨st,rfl,i _⟩ .nil)
 ·exact(((j.trans l).trans (af.new v)).trans (af.new m)).trans (af.new w)
def E_(rooms:Zb)(sgs:List (List Str)):Nat->List au->List au->Option Nat
 |_,_,[]=>none
 |i,ahead,d::ds=>if i=2000∨d∈ahead∨d.a∉rooms∨d.sg∉sgs∨d.b∉rooms then some i else E_ rooms sgs (i+1) (ahead++[d]) ds
inductive sp_first_wrong_door(K:Za)(vs:List V)(H:Hp)(Q:VK)(E:XK):Prop
 |mk (l l3 sl:Addr) (ts:Ze) (ds:List au) (rooms:Zb) (xs:List V) (sgs:List (List Str)):(vs=[.ref l,.ref l3,.ref sl])->(H l=some (.lst (ts.map V.ref)))->(dv H ts ds)->(H l3=some (.lst (rooms.map V.str)))->(rooms.length<=1000)->(H sl=some (.lst xs))->(Paired (mE K H) xs sgs)->(ds.length<=9000)->(∀H',af H H'->Q (oV (E_ rooms sgs 0 [] ds)) H')->sp_first_wrong_door K vs H Q E
theorem kn{a:Ze}{i:Nat}{x:V}(h:(a.map V.ref)[i]?=some x):∃w,a[i]?=some w/\x=.ref w:=by
 rw[cX]at h;cases q:a[i]? with
 |none=>rw[q]at h;cases h
 |some r=>rw[q]at h;exact⟨r,rfl,(eJ h).symm⟩
theorem lC{K:Za}{vs:List V}{H:Hp}{Q:VK}{E:XK}(h:sp_first_wrong_door K vs H Q E):mf K (sp_as_keys K) (bJ Q) (start mI vs) H:=by
 obtain⟨l,l3,sl,ts,p,rooms,xs,m,rfl,hl,A,h3,hr,T,U,hz,k⟩:=h;refine⟨_,rfl,pc (aH.of h3) hr fun d hd=>?_⟩;refine fun e Y=>?_;have B:af H (upd (upd H d (.dK (aI rooms))) e (.dT [])):=(af.new hd).trans (af.new Y);have ab:H e=none:=(af.new hd).free Y;refine⟨_,rfl,l,rfl,⟨_,aH.of (B _ _ hl)⟩,?_⟩
 let al:Nat->L2.St->Hp->Prop:=fun i σ H'=>∃x y,σ=[some (.ref l),some (.ref l3),some (.ref sl),some (.ref d),some (.ref e),x,y]/\af H H'/\H' d=some (.dK (aI rooms))/\H' e=some (.dT (jS ((p.take i).map AU)))/\E_ rooms m i (p.take i) (p.drop i)=E_ rooms m 0 [] p
 refine nR (xs:=ts.map V.ref) al
  ⟨_,_,rfl,B,kp aa Y,aa,rfl⟩ (fun i σ H' _ zq=>by obtain⟨_,_,_,C,_⟩:=zq;exact aH.of (C _ _ hl)) ?_ ?_
 ·rintro i x σ H' q hi ⟨x5,x6,rfl,C,an,ap,hf⟩ hq;obtain⟨t,ht,rfl⟩:=kn hi;obtain⟨f,r,as⟩:=Paired.getL A ht;have aC:i<p.length:=(gE.mp r).1;have ed:p.drop i=f::p.drop (i+1):=by
   rw[List.drop_eq_getElem_cons aC];congr 1;exact(gE.mp r).2
  rw[ed]at hf;have g:af H (upd H' q (.tup [.int i,.ref t])):=C.trans (af.new hq);have j:upd H' q (.tup [.int i,.ref t]) d=_:=kp an hq;have u:upd H' q (.tup [.int i,.ref t]) e=_:=kp ap hq;refine⟨q,_,rfl,cj.of aa,rfl,_,_,rfl,_,_,rfl,rfl,?_⟩;generalize upd H' q (.tup [.int i,.ref t])=H2 at j u g ⊢;have w:=as.kt (af.kt g);have aN:nZ K H2 (AU f) (.ref t):=fx.isIn 8 (by rw[tX];decide) w.tk;have D:(AU f).depth<=8:=by rw[tX];decide
  obtain⟨s,v,G⟩:=w;have n:(i=2000∨f∈p.take i∨f.a∉rooms∨f.sg∉m∨f.b∉rooms)->Q (.int i) H2:=by
   intro c;have:=k H2 g;rw[<-hf]at this;unfold E_ at this;rw[if_pos c]at this;exact this
  refine⟨_,rfl,rfl,_,rfl,?_⟩;by_cases J:i=2000
  ·have e1:decide (V.int (i:Nat)=V.int 2000)=true:=zzr1 (by rw[J];rfl);rw[e1];exact cZ (cZ ⟨_,rfl,n (.inl J)⟩)
  have e1:decide (V.int (i:Nat)=V.int 2000)=false:=zzr0 (fun z=>J (by injection z with z;omega));rw[e1];refine cF ?_;refine⟨_,rfl,_,rfl,e,_,rfl,.inr ⟨_,AU f,t,.inl u,rfl,aN,D,rfl⟩,_,rfl,?_⟩;rw[Dd];by_cases L:f∈p.take i
  ·rw[zzr1 (AG.mpr L)];exact cZ ⟨_,rfl,n (.inr (.inl L))⟩
  rw[zzr0 (fun z=>L (AG.mp z))];refine cF ?_;refine⟨_,rfl,.inr (.inl ⟨t,_,0,_,rfl,rfl,cj.of v,rfl,_,rfl,d,_,rfl,.inl ⟨_,.inr f.a,.inl j,rfl,rfl⟩,_,rfl,?_⟩)⟩;rw[dO];by_cases M:f.a∈rooms;rotate_left
  ·rw[zzr0 M];exact cZ (cZ ⟨_,rfl,n (.inr (.inr (.inl M)))⟩)
  rw[zzr1 M];refine cF ?_;refine⟨_,rfl,.inr (.inl ⟨t,_,1,_,rfl,rfl,cj.of v,rfl,_,rfl,xB f.sg,m.map xB,sl,xs,jm (cj.of G),rfl,.inl (aH.of (g _ _ T)),Signs.dIns (Signs.same g U),by rw[k9];decide,BK _,_,rfl,?_⟩)⟩;rw[if_pos rfl];by_cases N:f.sg∈m;rotate_left
  ·rw[zzr0 (fun z=>N (AF.mp z))];exact cZ (cZ ⟨_,rfl,n (.inr (.inr (.inr (.inl N))))⟩)
  rw[zzr1 (AF.mpr N)];refine cF ?_;refine⟨_,rfl,.inr (.inl ⟨t,_,2,_,rfl,rfl,cj.of v,rfl,_,rfl,d,_,rfl,.inl ⟨_,.inr f.b,.inl j,rfl,rfl⟩,_,rfl,?_⟩)⟩;rw[dO];by_cases O:f.b∈rooms;rotate_left
  ·rw[zzr0 O];exact cZ ⟨_,rfl,n (.inr (.inr (.inr (.inr O))))⟩
  rw[zzr1 O];refine cF ?_;have I:(jS ((p.take i).map AU)).length<aj:=gS (bN (BA _) (by rw[ao,bf];omega));refine⟨_,rfl,_,rfl,e,_,rfl,.inr ⟨_,AU f,t,u,rfl,ii.tk ⟨s,v,G⟩,D,I,rfl⟩,_,_,rfl,?_,?_,?_,?_⟩
  ·intro b o q;rw[ah (ae q ab)];exact g _ _ q
  ·rw[ah (fun z=>by rw[z,u]at j;cases j)];exact j
  ·rw[aa,take_snoc r,aD];exact congrArg (fun z=>some (HO.dT z)) (mx _ _).symm
  ·rw[<-hf,take_snoc r]
   conv=>rhs;unfold E_
   rw[if_neg];rintro(z|z|z|z|z)
   ·exact J z
   ·exact L z
   ·exact z M
   ·exact z N
   ·exact z O
 ·rintro σ H' ⟨x,y,rfl,C,_,_,hf⟩;have:=k H' C;rw[<-hf,ao,Paired.length A,List.drop_length]at this;exact this
theorem xD{rooms:Zb}{e:List (List Str)}:∀(f ahead:List au) (i:Nat),i+f.length<=2000->(ahead++f).Nodup->(∀d∈f,d.a∈rooms/\d.sg∈e/\d.b∈rooms)->E_ rooms e i ahead f=none
 |[],_,_,_,_,_=>rfl
 |n::j,ahead,i,k,g,h=>by
  rw[dj]at k;unfold E_;rw[if_neg]
  ·refine xD j (ahead++[n]) (i+1) (by omega) (by rw[g6];exact g) fun w l=>h w (cO _ l)
  ·have:=h n b_;rintro(z|z|z|z|z)
   ·omega
   ·rw[cD]at g;exact g.2.2 n z n (b_) rfl
   ·exact z this.1
   ·exact z this.2.1
   ·exact z this.2.2
inductive sp_need_none (vs:List V)(H:Hp)(Q:VK)(E:XK):Prop
 |mk (x:V):(vs=[x,.non])->(Q .non H)->sp_need_none  vs H Q E
theorem vF{K:Za}{a:List V}{H:Hp}{Q:VK}{E:XK}(h:sp_need_none a H Q E):wB K (bJ Q) (start xQ a) H:=by
 obtain⟨x,rfl,k⟩:=h;refine⟨_,rfl,_,rfl,?_⟩;have e:(!decide (V.non=V.non))=false:=by rw[zzr1 rfl];rfl
 rw[e];exact cF k
structure Lists(H:Hp)(l1 l2 l3 l4:Addr)(ts:Ze)(J0 J1 rooms:Zb)(ds:List au):Prop where
 a1:H l1=some (.lst (J0.map V.str))
 a2:H l2=some (.lst (J1.map V.str))
 a3:H l3=some (.lst (rooms.map V.str))
 a4:H l4=some (.lst (ts.map V.ref))
 ds:dv H ts ds
theorem Lists.same{H a:Hp}{d f l3 g:Addr}{i:Ze}{j k rooms:Zb}{l:List au}(h:Lists H d f l3 g i j k rooms l)(e:af H a):Lists a d f l3 g i j k rooms l :=
 ⟨e _ _ h.a1,e _ _ h.a2,e _ _ h.a3,e _ _ h.a4,h.ds.kt (af.kt e)⟩
inductive sp_need_parts (vs:List V)(H:Hp)(Q:VK)(E:XK):Prop
 |mk (l1 l2 l3 l4:Addr) (ts:Ze) (J0 J1 rooms:Zb) (ds:List au):(vs=[.ref l1,.ref l2,.ref l3,.ref l4])->(Lists H l1 l2 l3 l4 ts J0 J1 rooms ds)->(fm J0 J1 rooms ds)->(∀H',af H H'->Q .non H')->sp_need_parts  vs H Q E
theorem fm.signs{J0 h rooms:Zb}{i:List au}(m:fm J0 h rooms i):∀d∈i,d.a∈rooms/\d.sg∈jl J0 h/\d.b∈rooms:=by
 intro d j;have g:=m.good d j;refine⟨g.a,?_,g.b⟩;unfold jl;rcases g.sg with⟨w,f,e⟩|⟨w,f,e⟩|e
 ·rw[e];exact eM _ (eM _ (ay.mpr ⟨w,f,rfl⟩))
 ·rw[e];exact eM _ (dA _ (ay.mpr ⟨w,f,rfl⟩))
 ·rw[e];exact dA _ (by simp[aA])
theorem o7{a:Zb}(h:iJ a):∀w∈a,w.length<=1000:=fun w d=>bN (h.2 w d).hi (by decide)
theorem tj{K:Za}{q:List V}{H:Hp}{Q:VK}{E:XK}(h:sp_need_parts q H Q E):vk K sp_need_none (sp_first_wrong_door K) (sp_door_signs K) (sp_first_wrong_name K) (bJ Q) (start wb q) H:=by
 obtain⟨i,r,s,v,w,d,f,rooms,j,rfl,L,m,k⟩:=h;have x:cg d 4 []=none:=gA m.asks0 m.asks4 m.okA.1 m.okA.2;have y:cg f 4 d=none:=gA m.says0 m.says4 (by
  rw[cD];exact⟨m.okA.1,m.okS.1,fun a z b A e=>m.apart b A (e▸z)⟩) m.okS.2
 have B:cg rooms 150 []=none:=gA m.rooms0 (by have:=m.rooms26;omega) m.okR.1 m.okR.2;have C:E_ rooms (jl d f) 0 [] j=none:=xD j [] 0 (by have:=m.few;omega) m.nodup m.signs;have T:=m.asks4;have U:=m.says4;have Y:=m.rooms26;have z4:=m.few;refine⟨_,rfl,(by show 0<=aj;decide),fun e g=>⟨i,e,d,[],4,rfl,aH.of (kp L.a1 g),aH.of aa,by simp;omega,o7 m.okA,fun H1 D=>?_⟩⟩;rw[x];refine⟨_,rfl,?_⟩;have l:=(af.new g).trans D;refine⟨_,rfl,_,rfl,r,i,f,d,4,rfl,aH.of (l _ _ L.a2),aH.of (l _ _ L.a1),by omega,o7 m.okS,fun H2 G=>?_⟩;rw[y];refine⟨_,rfl,?_⟩;have t:=l.trans G;refine⟨_,rfl,(by show 0<=aj;decide),fun e g=>⟨s,e,rooms,[],150,rfl,aH.of (kp (t _ _ L.a3) g),aH.of aa,by simp;omega,o7 m.okR,fun H3 I=>?_⟩⟩;rw[B];refine⟨_,rfl,?_⟩;have n:=(t.trans (af.new g)).trans I;refine⟨_,rfl,_,rfl,_,rfl,_,rfl,i,r,d,f,rfl,n _ _ L.a1,n _ _ L.a2,by omega,by omega,fun J xs H4 hx M o=>?_⟩;have u:=n.trans M;have p:=L.same u;refine⟨v,s,J,w,j,rooms,xs,jl d f,rfl,p.a4,p.ds,p.a3,by omega,o,hx,by omega,fun N O=>?_⟩;rw[C];exact⟨_,rfl,k N (u.trans O)⟩
section
variable{κ ι:Type}[DecidableEq κ]{e:ι->κ}
def da(e:ι->κ)(ps:List (ι×Addr)):List (κ×V):=ps.map fun x=>(e x.1,V.ref x.2)
theorem kT(inj:∀x y,e x=e y->x=y){i:ι}:∀{a:List (ι×Addr)},i∉a.map (·.1)->bL (da e a) (e i)=none
 |[],_=>rfl
 |x::a,h=>by
  rw[bg,bA]at h;show bL ((e x.1,V.ref x.2)::da e a) (e i)=none;rw[cc (fun z=>h (.inl (inj _ _ z).symm))];exact kT inj (fun z=>h (.inr z))
theorem dL(inj:∀x y,e x=e y->x=y){i:ι}{a:Addr}:∀{d:List (ι×Addr)},(d.map (·.1)).Nodup->(i,a)∈d->bL (da e d) (e i)=some (.ref a)
 |[],_,h=>by cases h
 |x::d,f,h=>by
  rw[bg,dC]at f;show bL ((e x.1,V.ref x.2)::da e d) (e i)=_;rcases bA.mp h with h|h
  ·rw[<-h];exact cu rfl
  ·rw[cc (fun z=>f.1 (by rw[inj _ _ z];exact ay.mpr ⟨_,h,rfl⟩))];exact dL inj f.2 h
theorem ur(d:List (ι×Addr))(i:ι)(a:Addr):da e (d++[(i,a)])=da e d++[(e i,.ref a)]:=by
 unfold da;rw[aD]
 rfl
end
structure DL{ι:Type}(H0 H:Hp)(d:Addr)(ps:List (ι×Addr)):Prop where
 nd:(ps.map (·.1)).Nodup
 na:(ps.map (·.2)).Nodup
 fr:∀x∈ps,H0 x.2=none
 frd:H0 d=none
 ned:∀x∈ps,x.2≠d
 same:af H0 H
theorem DL.snoc{ι:Type}{f H k:Hp}{d:Addr}{g:List (ι×Addr)}{i:ι}{a:Addr}(h:DL f H d g)(hi:i∉g.map (·.1))(l:∀x∈g,x.2≠a)(m:f a=none)(n:a≠d)(s:af f k):DL f k d (g++[(i,a)]):=by
 refine⟨?_,?_,?_,h.frd,?_,s⟩
 ·rw[aD,cD];refine⟨h.nd,by simp,fun x hx y j e=>?_⟩;have:y=i:=by simpa using j
  exact hi (by rw[<-this,<-e];exact hx)
 ·rw[aD,cD];refine⟨h.na,by simp,fun x hx y j e=>?_⟩;have:y=a:=by simpa using j
  obtain⟨z,o,rfl⟩:=ay.mp hx;exact l z o (e.trans this)
 ·intro x hx;rcases bM.mp hx with hx|hx
  ·exact h.fr x hx
  ·have:x=(i,a):=by simpa using hx
   rw[this];exact m
 ·intro x hx;rcases bM.mp hx with hx|hx
  ·exact h.ned x hx
  ·have:x=(i,a):=by simpa using hx
   rw[this];exact n
theorem C8{ι:Type}:∀{a:List (ι×Addr)},(a.map (·.2)).Nodup->∀{x y:ι×Addr},x∈a->y∈a->x.2=y.2->x=y
 |[],_,x,_,h,_,_=>by cases h
 |p::a,d,x,y,hx,f,e=>by
  rw[bg,dC]at d;rcases bA.mp hx with hx'|hx'<;>rcases bA.mp f with hy'|hy'
  ·rw[hx',hy']
  ·exact absurd (ay.mpr ⟨y,hy',by rw[<-e,hx']⟩) d.1
  ·exact absurd (ay.mpr ⟨x,hx',by rw[e,hy']⟩) d.1
  ·exact C8 d.2 hx' hy' e
theorem iH:∀x y:Str,(Sum.inr x:dg)=Sum.inr y->x=y:=fun x y h=>by injection h
def bQ(ds:List au)(r:Str):List au:=ds.filter fun d=>decide (d.a=r)
inductive sp_doors_by_start (vs:List V)(H:Hp)(Q:VK)(E:XK):Prop
 |mk (l3 l4:Addr) (ts:Ze) (rooms:Zb) (ds:List au):(vs=[.ref l3,.ref l4])->(H l3=some (.lst (rooms.map V.str)))->(H l4=some (.lst (ts.map V.ref)))->(dv H ts ds)->(rooms.Nodup)->(rooms.length<=1000)->(ds.length<=9000)->((∀d∈ds,d.a∈rooms))->(∀(d:Addr) (ps:List (Str×Addr)) (H':Hp),ps.map (·.1)=rooms->H' d=some (.dK (da Sum.inr ps))->(∀x∈ps,∃us,H' x.2=some (.lst (us.map V.ref))/\dv H' us (bQ ds x.1))->af H H'->Q (.ref d) H')->sp_doors_by_start  vs H Q E
theorem nF{K:Za}{vs:List V}{H:Hp}{Q:VK}{E:XK}(h:sp_doors_by_start vs H Q E):oQ K (bJ Q) (start ph vs) H:=by
 obtain⟨l3,l4,ts,rooms,L,rfl,h3,h4,M,ap,hz,a9,aC,k⟩:=h;refine fun d hd=>?_;refine⟨_,rfl,l3,rfl,⟨_,aH.of (kp h3 hd)⟩,?_⟩
 let aN:Nat->L2.St->Hp->Prop:=fun i σ j=>∃x y,σ=[some (.ref l3),some (.ref l4),some (.ref d),x,y]/\∃l:List (Str×Addr),l.map (·.1)=rooms.take i/\j d=some (.dK (da Sum.inr l))/\DL H j d l/\∀x∈l,j x.2=some (.lst [])
 refine fk (xs:=rooms.map V.str) aN
  ⟨_,_,rfl,[],rfl,aa,⟨by simp,by simp,by simp,hd,by simp,af.new hd⟩,by simp⟩ (fun i σ j _ zq=>by obtain⟨_,_,_,_,_,_,D,_⟩:=zq;exact aH.of (D.same _ _ h3)) ?_ ?_
 ·rintro i x σ j hi ⟨x3,N,rfl,l,m,n,D,g⟩;obtain⟨w,hw,rfl⟩:=cw hi;have v:w∉l.map (·.1):=by
   rw[m];intro z;have:=ap;rw[<-List.take_append_drop (i+1) rooms,take_snoc hw,cD]at this;have:=this.1;rw[cD]at this;exact this.2.2 w z w (by simp) rfl
  refine⟨(by show 0<=aj;decide),fun a G=>?_⟩;have O:(da (Sum.inr:Str->dg) l).length<aj:=av (by
   unfold da;rw[ao,<-ao (f:=(·.1)) (as:=l),m,bf];omega)
  have aT:H a=none:=D.same.free G;have T:a≠d:=(ae n G).symm;have U:∀x∈l,x.2≠a:=fun x hx=>ae (g x hx) G;refine⟨_,rfl,_,rfl,d,_,rfl,.inl ⟨_,.inr w,kp n G,rfl,O,rfl⟩,_,_,rfl,l++[(w,a)],?_,?_,?_,?_⟩
  ·rw[aD,m,take_snoc hw];rfl
  ·rw[aa,jg _ (kT iH v),ur]
  ·refine D.snoc v U aT T ?_;intro b o q;rw[ah (ae q hd)];exact kp (D.same _ _ q) G
  ·intro x hx;rcases bM.mp hx with hx|hx
   ·rw[ah (D.ned x hx)];exact kp (g x hx) G
   ·have:x=(w,a):=by simpa using hx
    rw[this,ah T];exact aa
 ·rintro σ H1 ⟨x3,N,rfl,l,m,aX,D1,g⟩;rw[ao,bC]at m;refine⟨_,rfl,l4,rfl,⟨_,aH.of (D1.same _ _ h4)⟩,?_⟩
  let a0:Nat->L2.St->Hp->Prop:=fun i σ j=>∃N,σ=[some (.ref l3),some (.ref l4),some (.ref d),x3,N]/\j d=some (.dK (da Sum.inr l))/\DL H j d l/\∀x∈l,∃I,j x.2=some (.lst (I.map V.ref))/\dv j I (bQ (L.take i) x.1)
  refine fk (xs:=ts.map V.ref) a0
   ⟨_,rfl,aX,D1,fun x hx=>⟨[],g x hx,.nil⟩⟩ (fun i σ j _ zq=>by obtain⟨_,_,_,D,_⟩:=zq;exact aH.of (D.same _ _ h4)) ?_ ?_
  ·rintro i x σ j hi ⟨N,rfl,n,D,g⟩;obtain⟨t,ht,rfl⟩:=kn hi;obtain⟨u,B,a4⟩:=Paired.getL M ht;have A:=a4.kt (af.kt D.same);have Y:=A;obtain⟨s,a5,bd⟩:=A;have ab:u.a∈l.map (·.1):=by rw[m];exact aC u (gp B)
   obtain⟨⟨r,a⟩,p,er⟩:=ay.mp ab;obtain rfl:r=u.a:=er;obtain⟨I,C,al⟩:=g _ p;have bi:i<L.length:=(gE.mp B).1;have a6:I.length<=9000:=by
    rw[Paired.length al];refine bN (iM _ _) ?_;rw[bf];omega
   have KT:lg j (upd j a (.lst (I.map V.ref++[.ref t]))):=kC C;refine⟨_,rfl,_,rfl,.inr (.inl ⟨t,_,0,_,rfl,rfl,cj.of a5,rfl,d,.ref a,rfl,.inl ⟨_,.inr u.a,.inl n,rfl,(dL iH D.nd p).symm⟩,.inl ⟨rfl,_,aH.of C⟩,_,rfl,a,_,_,rfl,rfl,C,?_,_,rfl,?_,?_,?_⟩)⟩
   ·rw[ao];exact gS a6
   ·rw[ah (D.ned _ p).symm];exact n
   ·refine⟨D.nd,D.na,D.fr,D.frd,D.ned,fun b o q=>?_⟩;rw[ah (ae q (D.fr _ p))];exact D.same _ _ q
   ·intro x hx;have an:∀r',bQ (L.take (i+1)) r'=bQ (L.take i) r'++(if u.a=r' then[u]else[]):=by
     intro r';unfold bQ;rw[take_snoc B,uI];congr 1;by_cases c:u.a=r'
     ·rw[if_pos c];simp[c]
     ·rw[if_neg c];simp[c]
    by_cases c:x.2=a
    ·have ex:=C8 D.na hx p c;subst ex;refine⟨I++[t],?_,?_⟩
     ·show upd j a _ a=_;rw[aa,aD];rfl
     ·rw[an];show dv _ _ (bQ (L.take i) u.a++(if u.a=u.a then[u]else[]))
      rw[if_pos rfl];exact Paired.app (al.kt KT) (.cons (Y.kt KT) .nil)
    ·obtain⟨a7,h1,h2⟩:=g x hx;have a8:¬(u.a=x.1):=fun z=>by
      have e1:=dL (e:=(Sum.inr:Str->dg)) iH D.nd p;have J:=dL (e:=(Sum.inr:Str->dg)) (i:=x.1) (a:=x.2) iH D.nd hx;rw[<-z,e1]at J;injection J with J;injection J with J;exact c J.symm
     refine⟨a7,by rw[ah c];exact h1,?_⟩;rw[an,if_neg a8,cp];exact h2.kt KT
  ·rintro σ j ⟨N,rfl,n,D,g⟩;rw[ao,Paired.length M,bC]at g;exact⟨_,rfl,k d l j m n g D.same⟩
def nO(d:au):Bool:=match d.sg with
 |s::_=>decide (s=("ask":Str))
 |[]=>false
inductive sp_has_asks_alone (vs:List V)(H:Hp)(Q:VK)(E:XK):Prop
 |mk (a:Addr) (us:Ze) (ds:List au):(vs=[.ref a])->(H a=some (.lst (us.map V.ref)))->(dv H us ds)->(ds.length<=9000)->((∀d∈ds,d.sg≠[]))->(∀H',af H H'->Q (.bl (ds.all nO)) H')->sp_has_asks_alone  vs H Q E
theorem nE{K:Za}{f:List V}{H:Hp}{Q:VK}{E:XK}(h:sp_has_asks_alone f H Q E):oP K (bJ Q) (start pf f) H:=by
 obtain⟨a,O,L,rfl,M,v,Y,C,k⟩:=h;refine⟨_,rfl,a,rfl,⟨_,aH.of M⟩,fun l N=>?_⟩
 let D:Nat->List V->Hp->Prop:=fun i f n=>f=(L.take i).map (fun d=>V.bl (nO d))/\af H n/\n l=some (.lst f)
 refine gX (xs:=O.map V.ref) D
  ⟨rfl,af.new N,aa⟩ (fun i f n _ T=>by obtain⟨_,p,r⟩:=T;exact⟨r,aH.of (p _ _ M)⟩) ?_ ?_
 ·rintro f n ⟨rfl,p,r⟩;rw[ao,Paired.length v,bC]at r;refine⟨l,L.map nO,rfl,aH.of (by rw[r,eO];rfl),?_⟩;rw[List.all_map];exact k n p
 ·rintro i f n x hx hi ⟨rfl,p,r⟩;obtain⟨t,U,rfl⟩:=kn hx;obtain⟨G,w,I⟩:=Paired.getL v U;obtain⟨s,J,m⟩:=I.kt (af.kt p);have A:=gp w;obtain⟨u,g,B⟩:∃u g,G.sg=u::g:=by
   cases q:G.sg with
   |nil=>exact absurd q (C G A)
   |cons x y=>exact⟨x,y,rfl⟩
  unfold SignAt at m;rw[B]at m;refine gN (xY ?_);refine⟨_,rfl,.inr (.inl ⟨t,_,1,_,rfl,rfl,cj.of J,rfl,.inr (.inl ⟨s,_,0,.str u,rfl,rfl,cj.of m,cM (j:=0) rfl,rfl,r,?_,AC hi ⟨?_,?_,aa⟩⟩)⟩)⟩
  ·rw[ao,bf];exact gS (by omega)
  ·rw[take_snoc w,aD];congr 1;show[V.bl _]=[V.bl _];congr 2;unfold nO;rw[B];show decide (V.str u=V.str _)=decide (u=_);by_cases c:u=("ask":Str)
   ·rw[zzr1 c,zzr1 (by rw[c])]
   ·rw[zzr0 c,zzr0 (fun z=>c (by injection z))]
  ·intro b o e;rw[ah (ae e N)];exact p _ _ e
def sQ(x:Str×List Str):TK:=.t [oZ x.1,lD x.2]
theorem gK:∀x y:Str×List Str,sQ x=sQ y->x=y:=by
 intro x y h;unfold sQ at h;injection h with h;injection h with a h;injection h with d h;cases x;cases y;simp only at *;rw[qq a,nQ d]
theorem kQ(x:Str×List Str):(sQ x).depth<=8:=by
 show max (TK.depth (oZ x.1)) (max (TK.depth (lD x.2)) 0)+1<=8;rw[tW];show max 0 (max 1 0)+1<=8
 decide
def bb(ds:List au)(x:Str×List Str):List Str:=(ds.filter fun d=>decide (d.a=x.1/\d.sg=x.2)).map (·.b)
theorem vT(e:List au)(d:au)(x:Str×List Str):bb (e++[d]) x=bb e x++(if(d.a,d.sg)=x then[d.b]else[]):=by
 unfold bb;rw[uI,aD];congr 1;by_cases c:(d.a,d.sg)=x
 ·subst c;simp
 ·rw[if_neg c];have:¬(d.a=x.1/\d.sg=x.2):=fun z=>c (by cases x;simp only at z;rw[z.1,z.2]);simp[List.filter_cons];intro f g;exact this ⟨f,g⟩
theorem kD{e:List au}{x:Str×List Str}(h:∀d∈e,(d.a,d.sg)≠x):bb e x=[]:=by
 unfold bb;rw[List.map_eq_nil_iff,List.filter_eq_nil_iff];intro d f;have:¬(d.a=x.1/\d.sg=x.2):=fun z=>h d f (by cases x;simp only at z;rw[z.1,z.2]);simp;intro g i;exact this ⟨g,i⟩
theorem gb{a:List au}{x:Str×List Str}{b:Str}:b∈bb a x↔(⟨x.1,x.2,b⟩:au)∈a:=by
 unfold bb;rw[ay];constructor
 ·rintro⟨d,e,rfl⟩;rw[c8]at e;obtain⟨i,j⟩:=e;obtain⟨f,g⟩:=of_decide_eq_true j;cases d;simp only at f g;rw[<-f,<-g];exact i
 ·intro h;exact⟨_,c8.mpr ⟨h,zzr1 ⟨rfl,rfl⟩⟩,rfl⟩
structure iK(H:Hp)(g:Addr)(ps:List ((Str×List Str)×Addr))(ds:List au):Prop where
 nd:(ps.map (·.1)).Nodup
 g:H g=some (.dT (da sQ ps))
 ls:∀x∈ps,H x.2=some (.lst ((bb ds x.1).map V.str))
 all:∀d∈ds,(d.a,d.sg)∈ps.map (·.1)
theorem iK.same{H H':Hp}{g:Addr}{a:List ((Str×List Str)×Addr)}{d:List au}(h:iK H g a d)(s:af H H'):iK H' g a d:=⟨h.nd,s _ _ h.g,fun x hx=>s _ _ (h.ls x hx),h.all⟩
inductive nk (vs:List V)(H:Hp)(Q:VK)(E:XK):Prop
 |mk (l4:Addr) (ts:Ze) (ds:List au):(vs=[.ref l4])->(H l4=some (.lst (ts.map V.ref)))->(dv H ts ds)->(ds.length<=9000)->(∀(g:Addr) (ps:List ((Str×List Str)×Addr)) (H':Hp),iK H' g ps ds->af H H'->Q (.ref g) H')->nk  vs H Q E
theorem hZ{K:Za}{vs:List V}{H:Hp}{Q:VK}{E:XK}(h:nk vs H Q E):io K (bJ Q) (start ir vs) H:=by
 obtain⟨l4,ts,T,rfl,h4,ab,hz,k⟩:=h;refine fun g hg=>?_;refine⟨_,rfl,l4,rfl,⟨_,aH.of (kp h4 hg)⟩,?_⟩
 let aN:Nat->L2.St->Hp->Prop:=fun i σ u=>∃x y z,σ=[some (.ref l4),some (.ref g),x,y,z]/\∃p:List ((Str×List Str)×Addr),DL H u g p/\u g=some (.dT (da sQ p))/\p.length<=i/\(∀x∈p,u x.2=some (.lst ((bb (T.take i) x.1).map V.str)))/\∀d∈T.take i,(d.a,d.sg)∈p.map (·.1)
 refine fk (xs:=ts.map V.ref) aN
  ⟨_,_,_,rfl,[],⟨by simp,by simp,by simp,hg,by simp,af.new hg⟩,aa,by simp,by simp,by simp⟩ (fun i σ u _ zq=>by obtain⟨_,_,_,_,_,D,_⟩:=zq;exact aH.of (D.same _ _ h4)) ?_ ?_
 ·rintro i x σ u hi ⟨x2,x3,x4,rfl,p,D,w,al,m,l⟩;obtain⟨t,ht,rfl⟩:=kn hi;obtain⟨f,C,aT⟩:=Paired.getL ab ht;have a7:i<T.length:=(gE.mp C).1;obtain⟨s,aX,a0⟩:=aT.kt (af.kt D.same);refine⟨t,_,rfl,cj.of aX,rfl,_,_,rfl,_,_,rfl,_,_,rfl,rfl,?_⟩;refine⟨_,rfl,.inr (.inr (.inl ⟨rfl,.inr ⟨_,w⟩⟩)),_,rfl,_,rfl,(by show 2<=aj;decide),fun kt an=>⟨(by show 0<=aj;decide),fun nl U=>?_⟩⟩;have G:af u (upd (upd u kt (.tup [.str f.a,.ref s])) nl (.lst [])):=(af.new an).trans (af.new U);have L:upd (upd u kt (.tup [.str f.a,.ref s])) nl (.lst []) kt=some (.tup [.str f.a,.ref s]):=kp aa U;have M:upd (upd u kt (.tup [.str f.a,.ref s])) nl (.lst []) nl=some (.lst []):=aa;have j:u nl=none:=(af.new an).free U;generalize upd (upd u kt (.tup [.str f.a,.ref s])) nl (.lst [])=H2 at G L M ⊢;have a4:fx H2 (sQ (f.a,f.sg)) (.ref kt):=by
   unfold sQ fx;refine⟨kt,_,rfl,L,?_⟩;unfold TKAts;refine⟨_,_,rfl,vh _,?_⟩;unfold TKAts;refine⟨_,_,rfl,SignAt.tk (G _ _ a0),?_⟩;unfold TKAts
   rfl
  have a5:(da sQ p).length<aj:=gS (by unfold da;rw[ao];omega);have I:∀x,bb (T.take (i+1)) x=bb (T.take i) x++(if(f.a,f.sg)=x then[f.b]else[]):=fun x=>by rw[take_snoc C,vT]
  have a6:∀x,(bb (T.take i) x).length<=9000:=fun x=>by
   unfold bb;rw[ao];refine bN (iM _ _) ?_;rw[bf];omega
  refine⟨g,kt,_,sQ (f.a,f.sg),.ref nl,rfl,rfl,G _ _ w,a4,kQ _,a5,fun v J=>?_,fun J=>?_⟩
  ·-- there ap
   have N:(f.a,f.sg)∈p.map (·.1):=by
    refine qY fun z=>?_;rw[kT gK z]at J;cases J
   obtain⟨⟨r,a⟩,n,er⟩:=ay.mp N;obtain rfl:r=(f.a,f.sg):=er;rw[dL gK D.nd n]at J;injection J with J;subst J;have as:=G _ _ (m _ n);refine⟨.inl ⟨rfl,_,aH.of as⟩,_,rfl,a,_,_,rfl,rfl,as,by rw[ao];exact gS (a6 _),_,_,_,rfl,p,⟨D.nd,D.na,D.fr,D.frd,D.ned,fun b o q=>?_⟩,?_,by omega,?_,?_⟩
   ·rw[ah (ae q (D.fr _ n))];exact G _ _ (D.same _ _ q)
   ·rw[ah (D.ned _ n).symm];exact G _ _ w
   ·intro x hx;by_cases c:x.2=a
    ·have ex:=C8 D.na hx n c;subst ex;show upd H2 a _ a=_;rw[aa,I,if_pos rfl,aD];rfl
    ·have Y:¬((f.a,f.sg)=x.1):=fun z=>by
      have e1:=dL (e:=sQ) gK D.nd n;have e2:=dL (e:=sQ) (i:=x.1) (a:=x.2) gK D.nd hx;rw[<-z,e1]at e2;injection e2 with e2;injection e2 with e2;exact c e2.symm
     rw[ah c,I,if_neg Y,cp];exact G _ _ (m x hx)
   ·intro d hd;rw[take_snoc C]at hd;rcases bM.mp hd with hd|hd
    ·exact l d hd
    ·have:d=f:=by simpa using hd
     rw[this];exact N
  ·-- a new list
   have A:(f.a,f.sg)∉p.map (·.1):=by
    intro z;obtain⟨⟨r,a⟩,n,er⟩:=ay.mp z;obtain rfl:r=(f.a,f.sg):=er;rw[dL gK D.nd n]at J;cases J
   have B:nl≠g:=(ae w j).symm;have O:upd H2 g (.dT (da sQ p++[(sQ (f.a,f.sg),.ref nl)])) nl=some (.lst []):=by rw[ah B];exact M
   refine⟨.inl ⟨rfl,_,aH.of O⟩,_,rfl,nl,_,_,rfl,rfl,O,(by show 0<aj;decide),_,_,_,rfl,p++[((f.a,f.sg),nl)],?_,?_,?_,?_,?_⟩
   ·refine D.snoc A (fun x hx=>ae (m x hx) j) (D.same.free j) B ?_;intro b o q;rw[ah (ae q (D.same.free j)),ah (ae q hg)];exact G _ _ (D.same _ _ q)
   ·rw[ah B.symm,aa,ur]
   ·rw[aL];show _+1<=_;omega
   ·intro x hx;rcases bM.mp hx with hx|hx
    ·have Y:¬((f.a,f.sg)=x.1):=fun z=>A (by rw[z];exact ay.mpr ⟨x,hx,rfl⟩);rw[ah (ae (m x hx) j),ah (D.ned x hx),I,if_neg Y,cp];exact G _ _ (m x hx)
    ·have:x=((f.a,f.sg),nl):=by simpa using hx
     subst this;have aC:bb (T.take i) (f.a,f.sg)=[]:=kD fun d hd z=>A (by rw[<-z];exact l d hd);show upd _ nl _ nl=_;rw[aa,I,if_pos rfl,aC]
     rfl
   ·intro d hd;rw[aD];rw[take_snoc C]at hd;rcases bM.mp hd with hd|hd
    ·exact eM _ (l d hd)
    ·have:d=f:=by simpa using hd
     rw[this];exact dA _ (by simp)
 ·rintro σ u ⟨x2,x3,x4,rfl,p,D,w,al,m,l⟩;rw[ao,Paired.length ab,bC]at m l;exact⟨_,rfl,k g p u ⟨D.nd,w,m,l⟩ D.same⟩
theorem r6:∀{L R:Zb},L.Nodup->(∀y∈L,y∈R)->L.length<=R.length
 |[],_,_,_=>dY _
 |x::L,R,a,h=>by
  rw[dC]at a;have hx:=h x b_;have:=r6 (L:=L) (R:=R.erase x) a.2 fun y d=>(List.mem_erase_of_ne (fun e:y=x=>a.1 (by rw[<-e];exact d))).mpr (h y (cO _ d));rw[List.length_erase_of_mem hx]at this;have:0<R.length:=List.length_pos_of_mem hx;rw[dj];omega
theorem Reach.in_{e:List au}{a b:Str}{rooms:Zb}(f:∀d∈e,d.b∈rooms)(h:Reach e a b):b∈rooms:=by
 cases h with
 |one h=>exact f _ h
 |step r h=>exact f _ h
inductive vw (vs:List V)(H:Hp)(Q:VK)(E:XK):Prop
 |mk (g:Addr) (room:Str) (ps:List ((Str×List Str)×Addr)) (ds:List au) (rooms:Zb):(vs=[.ref g,.str room])->(iK H g ps ds)->((∀d∈ds,d.b∈rooms))->(rooms.length<=1000)->(∀(d:Addr) (L:Zb) (H':Hp),H' d=some (.dK (aI L))->L.Nodup->(∀w,w∈L↔Reach ds room w)->H d=none->af H H'->Q (.ref d) H')->vw  vs H Q E
structure G3(H0 H:Hp)(ds:List au)(room:Str)(d w:Addr)(L W:Zb)(open_:Str->Prop):Prop where
 d:H d=some (.dK (aI L))
 w:H w=some (.lst (W.map V.str))
 same:af H0 H
 nd:L.Nodup
 sound:∀y∈L,Reach ds room y
 wait:∀y∈W,y=room∨y∈L
 closed:∀y,(y=room∨y∈L)->y∉W->¬open_ y->∀c∈bb ds (y,aA),c∈L
theorem pU{K:Za}{st:Addr}(bd:∀H,cj K H st (aA.map V.str)){vs:List V}{H:Hp}{Q:VK}{E:XK}(h:vw vs H Q E):rE K st (bJ Q) (start sG vs) H:=by
 obtain⟨g,room,ps,ds,rooms,rfl,G,bi,hz,k⟩:=h;refine fun d hd=>?_;refine⟨_,rfl,(by show 1<=aj;decide),fun w hw=>?_⟩;have as:H w=none:=(af.new hd).free hw;have U:d≠w:=ae aa hw;refine⟨fun m σ B=>∃(L W:Zb) (x y:Option V),σ=[some (.ref g),some (.str room),some (.ref d),some (.ref w),x,y]/\G3 H B ds room d w L W (fun _=>False)/\m=2 * (rooms.length-L.length)+W.length/\m<=2 * rooms.length+1,
  ⟨_,[],[room],_,_,rfl,⟨kp aa hw,aa,(af.new hd).trans (af.new hw),oF,by simp,by simp,?_⟩,rfl,az _⟩,?_⟩
 ·intro y hy O;rcases hy with rfl|hy
  ·simp at O
  ·cases hy
 rintro m σ H1 ⟨L,W,x4,x5,rfl,D,rfl,hbound⟩;have T:∀{l:Zb},l.Nodup->(∀y∈l,Reach ds room y)->l.length<=rooms.length:=fun nd sd=>r6 nd fun y hy=>(sd y hy).in_ bi;refine⟨_,rfl,.inl ⟨w,_,rfl,.inl (aH.of D.w),_,_,rfl,rfl,_,rfl,?_⟩⟩;refine tD (fun A=>?_) (fun A=>?_)
 ·have aC:W≠[]:=by
   intro z;rw[z]at A;exact absurd (of_decide_eq_true A) (by decide)
  obtain⟨s,f,rfl⟩:∃s f,W=s++[f]:=⟨W.dropLast,W.getLast aC,(List.dropLast_concat_getLast aC).symm⟩;have Y:f=room∨f∈L:=D.wait f (by simp);refine⟨fun σ' B=>∃(l n:Zb) (x y:Option V),σ'=[some (.ref g),some (.str room),some (.ref d),some (.ref w),x,y]/\G3 H B ds room d w l n (fun _=>False)/\2 * (rooms.length-l.length)+n.length<2 * (rooms.length-L.length)+(s++[f]).length,
   fun σ' B ⟨l,n,x,y,e,D',hm⟩=>⟨_,hm,l,n,x,y,e,D',rfl,by omega⟩,?_⟩
  have ab:((s++[f]).map V.str)[((s++[f]).map V.str).length-1]?=some (.str f):=by simp
  have al:((s++[f]).map V.str).dropLast=s.map V.str:=by rw[aD];simp
  refine⟨_,rfl,.inl ⟨rfl,_,aH.of D.w⟩,w,_,_,rfl,rfl,D.w,ab,?_⟩;rw[al];have aN:upd H1 w (.lst (s.map V.str)) d=some (.dK (aI L)):=by rw[ah U];exact D.d
  have aT:upd H1 w (.lst (s.map V.str)) w=some (.lst (s.map V.str)):=aa;have S1:af H (upd H1 w (.lst (s.map V.str))):=fun b o q=>by rw[ah (ae q as)];exact D.same _ _ q
  generalize upd H1 w (.lst (s.map V.str))=H2 at aN aT S1 ⊢;have G2:=G.same S1;refine⟨_,rfl,g,rfl,.inr ⟨_,.inl G2.g⟩,_,rfl,(by show 2<=aj;decide),fun kt aX=>⟨(by show 0<=aj;decide),fun et an=>⟨bL (da sQ ps) (sQ (f,aA)),.inr ⟨_,sQ (f,aA),kt,.inl ?_,rfl,?_,kQ _,rfl⟩,?_⟩⟩⟩
  ·exact kp (kp G2.g aX) an
  ·unfold sQ nZ;refine⟨kt,_,rfl,cj.of (kp aa an),?_⟩;unfold TKIns;refine⟨_,_,rfl,?_,?_⟩
   ·unfold oZ nZ;rfl
   unfold TKIns;refine⟨_,_,rfl,?_,?_⟩
   ·unfold lD nZ;refine⟨st,_,rfl,bd _,?_⟩;unfold aA;show TKIns K _ [oZ _] [V.str _];unfold TKIns;refine⟨_,_,rfl,?_,?_⟩
    ·unfold oZ nZ;rfl
    unfold TKIns;rfl
   unfold TKIns;rfl
  have S3:af H2 (upd (upd H2 kt (.tup [.str f,.ref st])) et (.tup [])):=(af.new aX).trans (af.new an);have C:upd (upd H2 kt (.tup [.str f,.ref st])) et (.tup []) et=some (.tup []):=aa;generalize upd (upd H2 kt (.tup [.str f,.ref st])) et (.tup [])=H3 at S3 C ⊢;have D3:G3 H H3 ds room d w L s (fun y=>y=f):=⟨S3 _ _ aN,S3 _ _ aT,S1.trans S3,D.nd,D.sound,fun y hy=>D.wait y (eM _ hy),fun y hy O ho=>D.closed y hy (fun z=>by rcases bM.mp z with z|z;exact O z;exact ho (by simpa using z)) (fun z=>z)⟩;have a0:2 * (rooms.length-L.length)+s.length<2 * (rooms.length-L.length)+(s++[f]).length:=by rw[aL];show _<_+(_+1);omega
  have a4:∀(H4:Hp) (l n:Zb) (x y:Option V),G3 H H4 ds room d w l n (fun y=>y=f)->(∀c∈bb ds (f,aA),c∈l)->2 * (rooms.length-l.length)+n.length<2 * (rooms.length-L.length)+(s++[f]).length ->
    ∃(l n:Zb) (x' y':Option V),[some (V.ref g),some (.str room),some (.ref d),some (.ref w),x,y]=[some (.ref g),some (.str room),some (.ref d),some (.ref w),x',y']/\G3 H H4 ds room d w l n (fun _=>False)/\2 * (rooms.length-l.length)+n.length<2 * (rooms.length-L.length)+(s++[f]).length:=by
   intro H4 l n x y p hc hm;refine⟨l,n,x,y,rfl,⟨p.d,p.w,p.same,p.nd,p.sound,p.wait,fun y hy O _=>?_⟩,hm⟩;by_cases e:y=f
   ·rw[e];exact hc
   ·exact p.closed y hy O e
  by_cases I:(f,aA)∈ps.map (·.1)
  ·obtain⟨⟨r,a⟩,a5,er⟩:=ay.mp I;obtain rfl:r=(f,aA):=er;rw[dL gK G.nd a5];have a6:=G.ls _ a5;refine⟨a,rfl,.inl ⟨⟨_,aH.of ((S1.trans S3) _ _ a6)⟩,?_⟩⟩
   let ap:Nat->L2.St->Hp->Prop:=fun j σ B=>GZ fun(l n:Zb) (y:Option V)=>G0 (σ=[some (.ref g),some (.str room),some (.ref d),some (.ref w),some (.str f),y]) (G3 H B ds room d w l n (fun y=>y=f)) ((f=room∨f∈l)) ((∀c∈(bb ds (f,aA)).take j,c∈l)) (2 * (rooms.length-l.length)+n.length<2 * (rooms.length-L.length)+(s++[f]).length)
   refine fk (xs:=(bb ds (f,aA)).map V.str) ap
    ⟨L,s,_,rfl,D3,Y,by simp,a0⟩ (fun j σ B _ zq=>by obtain⟨_,_,_,_,D',_,_,_⟩:=zq;exact aH.of (D'.same _ _ a6)) ?_ ?_
   ·rintro j x σ H4 hj ⟨l,n,y,rfl,p,hh,hc,hm⟩;obtain⟨i,t,rfl⟩:=cw hj;have u:(⟨f,aA,i⟩:au)∈ds:=gb.mp (gp t);have N:Reach ds room i:=by
     rcases hh with hh|hh
     ·rw[hh]at u;exact .one u
     ·exact .step (p.sound _ hh) u
    have bm:=T p.nd p.sound;refine⟨_,rfl,_,rfl,d,_,rfl,.inl ⟨_,.inr i,.inl p.d,rfl,rfl⟩,_,rfl,?_⟩;rw[dO];by_cases c:i∈l
    ·rw[zzr1 c];refine cF ⟨l,n,_,rfl,p,hh,?_,hm⟩;intro c' v;rw[take_snoc t]at v;rcases bM.mp v with h|h
     ·exact hc c' h
     ·have:c'=i:=by simpa using h
      rw[this];exact c
    ·rw[zzr0 c];refine cZ ?_;have a7:(l++[i]).Nodup:=by
      rw[cD];refine⟨p.nd,by simp,fun a ha b hb e=>?_⟩;have:b=i:=by simpa using hb
      exact c (by rw[<-this,<-e];exact ha)
     have a8:∀y∈l++[i],Reach ds room y:=by
      intro y hy;rcases bM.mp hy with hy|hy
      ·exact p.sound y hy
      ·have:y=i:=by simpa using hy
       rw[this];exact N
     have J:=T a7 a8;rw[aL]at J;have bn:l.length+1<=rooms.length:=J;have bq:n.length<=9000:=by omega
     refine⟨_,rfl,_,rfl,d,_,rfl,.inl ⟨_,.inr i,p.d,rfl,av (bN (jF _) (by omega)),rfl⟩,?_⟩;have a9:upd H4 d (.dK (dI (aI l) (.inr i) (.bl true))) w=some (.lst (n.map V.str)):=by rw[ah U.symm];exact p.w
     refine⟨_,rfl,.inl ⟨rfl,_,aH.of a9⟩,_,rfl,w,_,_,rfl,rfl,a9,by rw[ao];exact gS bq,l++[i],n++[i],_,rfl,⟨?_,?_,?_,a7,a8,?_,?_⟩,?_,?_,?_⟩
     ·rw[ah U,aa,cW]
     ·rw[aa,aD];rfl
     ·intro b o q;rw[ah (ae q as),ah (ae q hd)];exact p.same _ _ q
     ·intro y hy;rcases bM.mp hy with hy|hy
      ·rcases p.wait y hy with h|h
       ·exact .inl h
       ·exact .inr (eM _ h)
      ·exact .inr (dA _ hy)
     ·intro y hy O ho c' v;have bz:y∉n:=fun z=>O (eM _ z);have bI:y≠i:=fun z=>O (dA _ (by simp[z]));refine eM _ (p.closed y ?_ bz ho c' v);rcases hy with hy|hy
      ·exact .inl hy
      ·rcases bM.mp hy with hy|hy
       ·exact .inr hy
       ·exact absurd (by simpa using hy) bI
     ·rcases hh with h|h
      ·exact .inl h
      ·exact .inr (eM _ h)
     ·intro c' v;rw[take_snoc t]at v;rcases bM.mp v with h|h
      ·exact eM _ (hc c' h)
      ·exact dA _ h
     ·rw[aL,aL];show 2 * (rooms.length-(l.length+1))+(n.length+1)<_;omega
   ·rintro σ H4 ⟨l,n,y,rfl,p,hh,hc,hm⟩;rw[ao,bC]at hc;exact a4 H4 l n _ _ p hc hm
  ·rw[kT gK I];refine⟨et,rfl,.inr ⟨⟨_,cj.of C⟩,?_⟩⟩;have M:bb ds (f,aA)=[]:=kD fun x hx z=>I (by rw[<-z];exact G.all x hx)
   let ap:Nat->L2.St->Hp->Prop:=fun j σ B=>σ=[some (.ref g),some (.str room),some (.ref d),some (.ref w),some (.str f),x5]/\B=H3
   refine AN (xs:=[]) ap ⟨rfl,rfl⟩ (fun j σ B _ zq=>by obtain⟨_,e⟩:=zq;exact by rw[e];exact cj.of C) (fun j x σ B hj=>by cases hj) ?_;rintro σ B ⟨rfl,rfl⟩;exact a4 _ L s _ _ D3 (by rw[M];simp) a0
 ·have M:W=[]:=by
   cases W with
   |nil=>rfl
   |cons a W=>exact absurd (zzr1 (by rw[ao,dj];omega)) A
  subst M;refine⟨_,rfl,k d L H1 D.d D.nd (fun w=>⟨D.sound w,fun hr=>?_⟩) hd D.same⟩
  induction hr with
  |one h=>exact D.closed room (.inl rfl) (by simp) (fun z=>z) _ (gb.mpr h)
  |step r h ih=>exact D.closed _ (.inr ih) (by simp) (fun z=>z) _ (gb.mpr h)
inductive sp_first_led_round (vs:List V)(H:Hp)(Q:VK)(E:XK):Prop
 |mk (l3 d:Addr) (rooms:Zb) (ps:List (Str×Addr)):(vs=[.ref l3,.ref d])->(H l3=some (.lst (rooms.map V.str)))->(H d=some (.dK (da Sum.inr ps)))->(ps.map (·.1)=rooms)->(rooms.Nodup)->((∀x∈ps,∃L,H x.2=some (.dK (aI L))/\x.1∉L))->(∀H',af H H'->Q .non H')->sp_first_led_round  vs H Q E
theorem mq{K:Za}{p:List V}{H:Hp}{Q:VK}{E:XK}(h:sp_first_led_round p H Q E):m8 K (bJ Q) (start n8 p) H:=by
 obtain⟨q,d,rooms,u,rfl,s,v,f,m,z,k⟩:=h;refine⟨_,rfl,q,rfl,⟨_,aH.of s⟩,?_⟩
 let n:Nat->L2.St->Hp->Prop:=fun i σ e=>∃x y,σ=[some (.ref q),some (.ref d),x,y]/\af H e
 refine nR (xs:=rooms.map V.str) n ⟨_,_,rfl,af.refl H⟩ (fun i σ e _ A=>by obtain⟨_,_,_,S⟩:=A;exact aH.of (S _ _ s)) ?_ ?_
 ·rintro i x σ e t hi ⟨I,J,rfl,S⟩ B;obtain⟨w,C,rfl⟩:=cw hi;refine⟨t,_,rfl,cj.of aa,rfl,_,_,rfl,_,_,rfl,rfl,?_⟩;have l:af H (upd e t (.tup [.int i,.str w])):=S.trans (af.new B);generalize upd e t (.tup [.int i,.str w])=M at l ⊢;have g:w∈u.map (·.1):=by rw[f];exact gp C
  obtain⟨⟨r,a⟩,j,D⟩:=ay.mp g;obtain rfl:r=w:=D;obtain⟨L,o,G⟩:=z _ j;refine⟨_,rfl,_,rfl,_,rfl,d,.ref a,rfl,.inl ⟨_,.inr r,.inl (l _ _ v),rfl,(dL iH (by rw[f];exact m) j).symm⟩,a,_,rfl,.inl ⟨_,.inr r,.inl (l _ _ o),rfl,rfl⟩,_,rfl,?_⟩;rw[dO,zzr0 G];exact cF ⟨_,_,rfl,l⟩
 ·rintro σ e ⟨x,y,rfl,S⟩;exact k e S
abbrev lk(f:Str)(fs:List (Str×V)):Option V:=fs.lookup f
def fe(ds:List au)(r:Str):Bool:=(bQ ds r).all nO
structure bw(C:Addr)(H:Hp)(x:Addr)(J0 J1 rooms:Zb)(ds:List au):Prop where
 at_:∃(dx:Addr) (fs:List (Str×V)) (o1 o2 o3 o4 lv qu sg sl:Addr) (ts:Ze) (lps:List (Str×Addr)) (gps:List ((Str×List Str)×Addr)) (sps:List (Str×Addr)),
  H x=some (.ins C dx fs)/\lk "is_quiet" fs=none/\lk "goals" fs=none/\lk "led_from" fs=none/\lk "rooms" fs=none /\
  lk "own_asks" fs=some (.ref o1)/\lk "own_says" fs=some (.ref o2)/\lk "own_rooms" fs=some (.ref o3)/\lk "own_doors" fs=some (.ref o4) /\
  lk "leaving" fs=some (.ref lv)/\lk "quiet" fs=some (.ref qu)/\lk "sign_goals" fs=some (.ref sg)/\lk "still_led" fs=some (.ref sl) /\
  Lists H o1 o2 o3 o4 ts J0 J1 rooms ds /\
  lps.map (·.1)=rooms/\H lv=some (.dK (da Sum.inr lps))/\(∀x∈lps,∃us,H x.2=some (.lst (us.map V.ref))/\dv H us (bQ ds x.1)) /\
  H qu=some (.dK (aI (rooms.filter (fe ds))))/\iK H sg gps ds /\
  sps.map (·.1)=rooms/\H sl=some (.dK (da Sum.inr sps))/\(∀x∈sps,∃L,H x.2=some (.dK (aI L))/\L.Nodup/\∀w,w∈L↔Reach ds x.1 w)
 ok:fm J0 J1 rooms ds
 more:∃(dx:Addr) (fs:List (Str×V)),H x=some (.ins C dx fs)/\lk "asks" fs=none/\lk "says" fs=none/\lk "doors" fs=none/\lk "doors_from" fs=none
theorem c9(f:Str)(v:V):∀fs:List (Str×V),(b9 f v fs).length<=fs.length+1
 |[]=>az _
 | (g,x)::r=>by
  unfold b9;split
  ·exact iW _
  ·rw[dj,dj];have:=c9 f v r;omega
theorem r9:∀(a qs:List (Str×Addr)),((qs++a).map (·.1)).Nodup->gv (da Sum.inr qs) (da Sum.inr a)=da Sum.inr (qs++a)
 |[],qs,_=>by rw[cp];rfl
 |p::a,qs,f=>by
  show gv (dI (da Sum.inr qs) (Sum.inr p.1) (.ref p.2)) (da Sum.inr a)=_;have e:qs++p::a=(qs++[p])++a:=by simp
  rw[e]at f ⊢;have d:p.1∉qs.map (·.1):=by
   rw[aD,aD,cD]at f;have:=f.1;rw[cD]at this;intro z;exact this.2.2 _ z _ (by simp) rfl
  rw[jg _ (kT iH d)];have:=r9 a (qs++[p]) f;rw[<-this];have g:da (Sum.inr:Str->dg) (qs++[p])=da Sum.inr qs++[(Sum.inr p.1,V.ref p.2)]:=by
   unfold da;rw[aD];rfl
  rw[g]
inductive qj(C:Addr)(vs:List V)(H:Hp)(Q:VK)(E:XK):Prop
 |mk (x dx l1 l2 l3 l4:Addr) (ts:Ze) (J0 J1 rooms:Zb) (ds:List au):(vs=[.ref x,.ref l1,.ref l2,.ref l3,.ref l4])->(H x=some (.ins C dx []))->(Lists H l1 l2 l3 l4 ts J0 J1 rooms ds)->(fm J0 J1 rooms ds)->(∀H',bw C H' x J0 J1 rooms ds->dH x H H'->Q .non H')->qj C vs H Q E
theorem Lists.exI{H d:Hp}{x C n:Addr}{fs:List (Str×V)}{f g l3 i:Addr}{j:Ze}{k l rooms:Zb}{m:List au}(h:Lists H f g l3 i j k l rooms m)(hx:H x=some (.ins C n fs))(e:dH x H d):Lists d f g l3 i j k l rooms m:=by
 have ne:∀{b:Addr}{xs:List V},H b=some (.lst xs)->b≠x:=fun a z=>by rw[z,hx]at a;cases a
 exact⟨e _ _ h.a1 (ne h.a1),e _ _ h.a2 (ne h.a2),e _ _ h.a3 (ne h.a3),e _ _ h.a4 (ne h.a4),h.ds.kt fun b xs a=>e _ _ a fun z=>by rw[z,hx]at a;cases a⟩
theorem dH.ktI{H d:Hp}{x C f:Addr}{fs:List (Str×V)}(e:dH x H d)(hx:H x=some (.ins C f fs)):lg H d:=fun b xs a=>e _ _ a fun z=>by rw[z,hx]at a;cases a
theorem dH.neI{H:Hp}{x C d:Addr}{fs:List (Str×V)}(hx:H x=some (.ins C d fs)){b:Addr}{xs:List V}(a:H b=some (.lst xs)):b≠x:=fun z=>by rw[z,hx]at a;cases a
theorem C7{H:Hp}{x C e:Addr}{fs:List (Str×V)}(hx:H x=some (.ins C e fs)){b:Addr}{a:List (dg×V)}(d:H b=some (.dK a)):b≠x:=fun z=>by rw[z,hx]at d;cases d
theorem FG{H:Hp}{x C e:Addr}{fs:List (Str×V)}(hx:H x=some (.ins C e fs)){b:Addr}{a:List (TK×V)}(d:H b=some (.dT a)):b≠x:=fun z=>by rw[z,hx]at d;cases d
structure MC(K:Za)(C:Addr):Prop where
 cls:xV K C
 a1:cG K C "own_asks"
 a2:cG K C "own_says"
 a3:cG K C "own_rooms"
 a4:cG K C "own_doors"
 a5:cG K C "leaving"
 a6:cG K C "quiet"
 a7:cG K C "sign_goals"
 a8:cG K C "still_led"
theorem pb{H:Hp}{x C a:Addr}{fs:List (Str×V)}(f:Str)(y:V)(hx:H x=some (.ins C a fs)):∃d,d=upd H x (.ins C a (b9 f y fs))/\d x=some (.ins C a (b9 f y fs))/\dH x H d :=
 ⟨_,rfl,aa,dH.upd _ _ _⟩
theorem eK{p:Str->Bool}{a:Zb}{i:Nat}{w:Str}(h:a[i]?=some w):(a.take (i+1)).filter p=(a.take i).filter p++(if p w=true then[w]else[]):=by
 rw[take_snoc h,uI];congr 1;by_cases c:p w=true
 ·rw[if_pos c];simp[c]
 ·rw[if_neg c];simp[c]
theorem yV(a:List au)(r:Str):(bQ a r).length<=a.length:=iM _ _
theorem fm.sg0{a f rooms:Zb}{ds:List au}(m:fm a f rooms ds){r:Str}:∀d∈bQ ds r,d.sg≠[]:=by
 intro d g;have:=m.good d (c8.mp g).1;rcases this.sg with⟨w,_,e⟩|⟨w,_,e⟩|e<;>rw[e]<;>exact List.cons_ne_nil _ _
theorem Ew{K:Za}{C:Addr}(M:MC K C){B:List V}{H:Hp}{Q:VK}{E:XK}(h:qj C B H Q E):
  ml K sp_need_none sp_first_led_round vw nk (sp_as_keys K) sp_has_asks_alone sp_doors_by_start sp_need_parts (bJ Q) (start mL B) H:=by
 obtain⟨x,G,l1,l2,l3,l4,ts,J0,J1,rooms,ds,rfl,hx,L,m,k⟩:=h;have z3:=m.rooms26;have z4:=m.few;refine⟨_,rfl,_,rfl,_,rfl,_,rfl,l1,l2,l3,l4,ts,J0,J1,rooms,ds,rfl,L,m,fun H1 S1=>?_⟩;have aC:=S1 _ _ hx;have L1:=L.same S1;have E1:dH x H H1:=af.exB S1;refine⟨_,rfl,.inl ⟨l1,_,rfl,.inl (aH.of L1.a1),fun o1 aN=>⟨_,rfl,x,C,G,_,rfl,kp aC aN,M.cls,M.a1,(by show 0<1000;decide),?_⟩⟩⟩;obtain⟨H2,e2,aT,F2⟩:=pb "own_asks" (.ref o1) (kp (x:=.lst (J0.map V.str)) aC aN);rw[<-e2];have n1:o1≠x:=(ae aC aN).symm;have f1:=F2 _ _ aa n1;have E2:dH x H1 H2:=(dH.new aN).trans F2;have b6:=L1.exI aC E2;have dr:(b9 ("own_asks":Str) (.ref o1) []).length<=1:=c9 _ _ _;clear e2 F2;refine⟨_,rfl,.inl ⟨l2,_,rfl,.inl (aH.of b6.a2),fun o2 aX=>⟨_,rfl,x,C,G,_,rfl,kp aT aX,M.cls,M.a2,by omega,?_⟩⟩⟩;obtain⟨H3,e3,a0,F3⟩:=pb "own_says" (.ref o2) (kp (x:=.lst (J1.map V.str)) aT aX);rw[<-e3];have n2:o2≠x:=(ae aT aX).symm;have f2:=F3 _ _ aa n2;have E3:dH x H2 H3:=(dH.new aX).trans F3;have L3:=b6.exI aT E3;have dt:=c9 ("own_says":Str) (.ref o2) (b9 ("own_asks":Str) (.ref o1) []);clear e3 F3;refine⟨_,rfl,.inl ⟨l3,_,rfl,.inl (aH.of L3.a3),fun o3 a9=>⟨_,rfl,x,C,G,_,rfl,kp a0 a9,M.cls,M.a3,by omega,?_⟩⟩⟩;obtain⟨H4,e4,bd,F4⟩:=pb "own_rooms" (.ref o3) (kp (x:=.lst (rooms.map V.str)) a0 a9);rw[<-e4];have n3:o3≠x:=(ae a0 a9).symm;have f3:=F4 _ _ aa n3;have E4:dH x H3 H4:=(dH.new a9).trans F4;have L4:=L3.exI a0 E4;have du:=c9 ("own_rooms":Str) (.ref o3) (b9 ("own_says":Str) (.ref o2) (b9 ("own_asks":Str) (.ref o1) []));clear e4 F4;refine⟨_,rfl,.inl ⟨l4,_,rfl,.inl (aH.of L4.a4),fun o4 bi=>⟨_,rfl,x,C,G,_,rfl,kp bd bi,M.cls,M.a4,by omega,?_⟩⟩⟩;obtain⟨H5,e5,n,F5⟩:=pb "own_doors" (.ref o4) (kp (x:=.lst (ts.map V.ref)) bd bi);rw[<-e5];have n4:o4≠x:=(ae bd bi).symm;have f4:=F5 _ _ aa n4;have E5:dH x H4 H5:=(dH.new bi).trans F5;have L5:=L4.exI bd E5;generalize bI:b9 ("own_doors":Str) (.ref o4) (b9 ("own_rooms":Str) (.ref o3) (b9 ("own_says":Str) (.ref o2) (b9 ("own_asks":Str) (.ref o1) [])))=s at n;have dy:s.length<=4:=by
  rw[<-bI];have:=c9 ("own_doors":Str) (.ref o4) (b9 ("own_rooms":Str) (.ref o3) (b9 ("own_says":Str) (.ref o2) (b9 ("own_asks":Str) (.ref o1) [])));omega
 clear e5 F5;refine⟨_,rfl,_,rfl,l3,l4,ts,rooms,ds,rfl,L5.a3,L5.a4,L5.ds,m.okR.1,by omega,by omega,fun d hd=>(m.good d hd).a,fun N bl d1 O T bS S6=>⟨_,rfl,x,C,G,s,rfl,S6 _ _ n,M.cls,M.a5,by omega,?_⟩⟩;obtain⟨H6,e6,u,F6⟩:=pb "leaving" (.ref N) (S6 _ _ n);rw[<-e6];have E6:dH x H5 H6:=(af.exB S6).trans F6;have L6:=L5.exI n E6;have b0:=F6 _ _ T (C7 (S6 _ _ n) T);have b7:∀y∈bl,∃A,H6 y.2=some (.lst (A.map V.ref))/\dv H6 A (bQ ds y.1):=fun y hy=>by
  obtain⟨A,I,g2⟩:=bS y hy;exact⟨A,F6 _ _ I (dH.neI (S6 _ _ n) I),g2.kt (F6.ktI (S6 _ _ n))⟩
 have cs:(bl.map (·.1)).Nodup:=by rw[O];exact m.okR.1
 have dT:=c9 ("leaving":Str) (.ref N) s;have ct:lk "leaving" (b9 ("leaving":Str) (.ref N) s)=some (.ref N):=by
  show jO _ _=_;rw[dE,if_pos rfl]
 clear e6 F6 T bS;refine⟨_,rfl,l3,rfl,⟨_,aH.of L6.a3⟩,fun f hf=>?_⟩
 let cB:Nat->List V->Hp->Prop:=fun i B U=>B=((rooms.take i).filter (fe ds)).map V.str/\af H6 U/\U f=some (.lst B)
 refine gX (xs:=rooms.map V.str) cB ⟨rfl,af.new hf,aa⟩ (fun i B U _ zq=>by obtain⟨_,S,h'⟩:=zq;exact⟨h',aH.of (S _ _ L6.a3)⟩) ?_ ?_;rotate_left
 ·rintro i B U x' b1 hi ⟨rfl,S,f'⟩;obtain⟨r,hr,rfl⟩:=cw b1;obtain⟨⟨r',a⟩,b8,er⟩:=ay.mp (show r∈bl.map (·.1) by rw[O];exact gp hr);obtain rfl:r'=r:=er;obtain⟨A,cC,c0⟩:=b7 _ b8;refine gN ?_;refine⟨_,rfl,x,C,G,_,.ref N,rfl,S _ _ u,M.cls,M.a5,ct,_,rfl,N,.ref a,rfl,.inl ⟨_,.inr r',.inl (S _ _ b0),rfl,(dL iH cs b8).symm⟩,a,A,bQ ds r',rfl,S _ _ cC,c0.kt (af.kt S),bN (yV _ _) (by omega),m.sg0,fun bm l=>⟨_,rfl,?_⟩⟩;have ce:(((rooms.take i).filter (fe ds)).map V.str).length<aj:=by
   rw[ao];refine av (bN (iM _ _) ?_);rw[bf];omega
  refine tD (fun hq=>?_) (fun hq=>?_)
  ·refine⟨_,rfl,l _ _ f',ce,AC hi ⟨?_,?_,aa⟩⟩
   ·rw[eK hr,if_pos (show fe ds r'=true from hq),aD];rfl
   ·intro b o q;rw[ah (ae q hf)];exact l _ _ (S _ _ q)
  ·refine AC hi ⟨?_,S.trans l,?_⟩
   ·rw[eK hr,if_neg (show ¬fe ds r'=true from hq),cp]
   ·exact l _ _ f'
 rintro B d2 ⟨rfl,S7,f7⟩;rw[ao,bC]at f7;refine pc (ws:=rooms.filter (fe ds)) (aH.of f7) (bN (iM _ _) (by omega)) fun qu bn=>⟨_,rfl,x,C,G,_,rfl,kp (S7 _ _ u) bn,M.cls,M.a6,by omega,?_⟩;obtain⟨H7,e7,ab,F7⟩:=pb "quiet" (.ref qu) (kp (x:=.dK (aI (rooms.filter (fe ds)))) (S7 _ _ u) bn);rw[<-e7];have n7:qu≠x:=(ae (S7 _ _ u) bn).symm;have c1:=F7 _ _ aa n7;have E7:dH x H6 H7:=((af.exB S7).trans (dH.new bn)).trans F7;have L7:=L6.exI u E7;have dV:=c9 ("quiet":Str) (.ref qu) (b9 ("leaving":Str) (.ref N) s);clear e7 F7;refine⟨_,rfl,l4,ts,ds,rfl,L7.a4,L7.ds,by omega,fun sg b2 d3 G' S8=>⟨_,rfl,x,C,G,_,rfl,S8 _ _ ab,M.cls,M.a7,by omega,?_⟩⟩;obtain⟨H8,e8,v,F8⟩:=pb "sign_goals" (.ref sg) (S8 _ _ ab);rw[<-e8];have E8:dH x H7 H8:=(af.exB S8).trans F8;have L8:=L7.exI ab E8;have G8:iK H8 sg b2 ds:=⟨G'.nd,F8 _ _ G'.g (FG (S8 _ _ ab) G'.g),fun y hy=>F8 _ _ (G'.ls y hy) (dH.neI (S8 _ _ ab) (G'.ls y hy)),G'.all⟩;have d0:=c9 ("sign_goals":Str) (.ref sg) (b9 ("quiet":Str) (.ref qu) (b9 ("leaving":Str) (.ref N) s));have c2:lk "sign_goals" (b9 ("sign_goals":Str) (.ref sg) (b9 ("quiet":Str) (.ref qu) (b9 ("leaving":Str) (.ref N) s)))=some (.ref sg):=by
  show jO _ _=_;rw[dE,if_pos rfl]
 clear e8 F8 G';refine⟨_,rfl,l3,rfl,⟨_,aH.of L8.a3⟩,fun bq ch=>?_⟩
 let c3:Nat->List V->Hp->Prop:=fun i B U=>HA fun(A:Ze) (pl:List (Str×Addr))=>HB (B=A.map V.ref) (Paired (fun t (p:Str×Addr)=>U t=some (.tup [.str p.1,.ref p.2])) A pl) (pl.map (·.1)=rooms.take i) ((∀p∈pl,∃L,U p.2=some (.dK (aI L))/\L.Nodup/\∀w,w∈L↔Reach ds p.1 w)) (af H8 U) (U bq=some (.lst B))
 refine gX (xs:=rooms.map V.str) c3
  ⟨[],[],rfl,.nil,rfl,by simp,af.new ch,aa⟩ (fun i B U _ zq=>by obtain⟨_,_,_,_,_,_,S,h'⟩:=zq;exact⟨h',aH.of (S _ _ L8.a3)⟩) ?_ ?_
 rotate_left
 ·rintro i B U x' b1 hi ⟨A,pl,rfl,al,ci,c4,S,f'⟩;obtain⟨r,hr,rfl⟩:=cw b1;have c5:A.length<=150:=by
   rw[Paired.length al,<-ao (f:=(·.1)) (as:=pl),ci,bf];omega
  refine gN (xY ?_);refine⟨_,rfl,_,rfl,x,C,G,_,.ref sg,rfl,S _ _ v,M.cls,M.a7,c2,_,rfl,sg,r,b2,ds,rooms,rfl,G8.same S,fun d hd=>(m.good d hd).b,by omega,fun ld Lr bm dc nd dd d5 l=>⟨(by show 2<=aj;decide),fun t ht=>⟨?_,?_,AC hi ⟨A++[t],pl++[(r,ld)],?_,?_,?_,?_,?_,aa⟩⟩⟩⟩
  ·exact kp (l _ _ f') ht
  ·rw[ao];exact av (by omega)
  ·rw[aD];rfl
  ·have KT:lg (upd bm t (.tup [.str r,.ref ld])) (upd (upd bm t (.tup [.str r,.ref ld])) bq (.lst (A.map V.ref++[.ref t]))):=kC (kp (l _ _ f') ht);exact Paired.app (Paired.mapP al fun t' p' e=>KT _ _ (kp (l _ _ e) ht)) (.cons (KT _ _ aa) .nil)
  ·rw[aD,ci,take_snoc hr];rfl
  ·have ck:∀{b:Addr}{di:List (dg×V)},upd bm t (.tup [.str r,.ref ld]) b=some (.dK di)->b≠bq:=fun hb z=>by rw[z,kp (l _ _ f') ht]at hb;cases hb
   intro p hp;rcases bM.mp hp with hp|hp
   ·obtain⟨L0,I,g2⟩:=c4 p hp;refine⟨L0,?_,g2⟩;have:=kp (x:=.tup [.str r,.ref ld]) (l _ _ I) ht;rw[ah (ck this)];exact this
   ·have:p=(r,ld):=by simpa using hp
    subst this;refine⟨Lr,?_,nd,dd⟩;have:=kp (x:=.tup [.str r,.ref ld]) dc ht;rw[ah (ck this)];exact this
  ·intro b o q;rw[ah (ae q ch)];exact kp (l _ _ (S _ _ q)) ht
 rintro B d7 ⟨A,sps,rfl,al,D,cl,S9,f9⟩;rw[ao,bC]at D;have dm:(sps.map (·.1)).Nodup:=by rw[D];exact m.okR.1
 refine⟨bq,A,da Sum.inr sps,rfl,aH.of f9,?_,?_,fun sl J=>⟨_,rfl,x,C,G,_,rfl,kp (S9 _ _ v) J,M.cls,M.a8,by omega,?_⟩⟩
 ·rw[Paired.length al];unfold da;rw[ao]
 ·intro j t kv hj b3;obtain⟨p,hp,e⟩:=Paired.getL al hj;unfold da at b3;rw[cX,hp]at b3;have:=eJ b3;rw[<-this];exact e
 have bz:gv [] (da Sum.inr sps)=da Sum.inr sps:=r9 sps [] dm;rw[bz];obtain⟨H9,e9,b4,F9⟩:=pb "still_led" (.ref sl) (kp (x:=.dK (da Sum.inr sps)) (S9 _ _ v) J);rw[<-e9];have n9:sl≠x:=(ae (S9 _ _ v) J).symm;have cm:=F9 _ _ aa n9;have E9:dH x H8 H9:=((af.exB S9).trans (dH.new J)).trans F9;have L9:=L8.exI v E9;have an:∀p∈sps,∃L,H9 p.2=some (.dK (aI L))/\L.Nodup/\∀w,w∈L↔Reach ds p.1 w:=fun p hp=>by
  obtain⟨L0,I,g2⟩:=cl p hp;have g3:=kp (x:=.dK (da Sum.inr sps)) I J;exact⟨L0,F9 _ _ g3 (C7 (kp (S9 _ _ v) J) g3),g2⟩
 clear e9 F9;have cn:lk "still_led" (b9 ("still_led":Str) (.ref sl) (b9 ("sign_goals":Str) (.ref sg) (b9 ("quiet":Str) (.ref qu) (b9 ("leaving":Str) (.ref N) s))))=some (.ref sl):=by
  show jO _ _=_;rw[dE,if_pos rfl]
 refine⟨_,rfl,_,rfl,x,C,G,_,.ref sl,rfl,b4,M.cls,M.a8,cn,l3,sl,rooms,sps,rfl,L9.a3,cm,D,m.okR.1,fun p hp=>?_,fun co ap=>⟨_,rfl,k co ?_ ?_⟩⟩
 ·obtain⟨L0,I,g2,g3⟩:=an p hp;exact⟨L0,I,fun z=>m.noround _ ((g3 _).mp z)⟩
 ·have b5:dH x H6 H9:=(E7.trans E8).trans E9;have dn:=((E6.trans E7).trans E8).trans E9;have Y:∀{b:Addr}{o:HO},H9 b=some o->co b=some o:=fun h=>ap _ _ h;have LL:Lists H5 o1 o2 o3 o4 ts J0 J1 rooms ds:=⟨(E3.trans (E4.trans E5)) _ _ f1 n1,(E4.trans E5) _ _ f2 n2,E5 _ _ f3 n3,f4,L5.ds⟩;refine⟨⟨G,_,o1,o2,o3,o4,N,qu,sg,sl,ts,bl,b2,sps,Y b4,?_,?_,?_,?_,?_,?_,?_,?_,?_,?_,?_,cn,(LL.exI n dn).same ap,O,?_,?_,?_,?_,D,Y cm,fun p hp=>?_⟩,m,⟨G,_,Y b4,?_,?_,?_,?_⟩⟩
  rotate_right 9
  ·exact Y (b5 _ _ b0 (C7 u b0))
  ·intro y hy;obtain⟨dp,I,g2⟩:=b7 y hy;exact⟨dp,Y (b5 _ _ I (dH.neI u I)),(g2.kt (b5.ktI u)).kt (af.kt ap)⟩
  ·exact Y ((E8.trans E9) _ _ c1 n7)
  ·exact iK.same ⟨G8.nd,E9 _ _ G8.g (FG v G8.g),fun y hy=>E9 _ _ (G8.ls y hy) (dH.neI v (G8.ls y hy)),G8.all⟩ ap
  ·obtain⟨L0,I,g2⟩:=an p hp;exact⟨L0,Y I,g2⟩
  all_goals(show jO _ _=_;subst bI;repeat (rw[dE];first|rw[if_pos rfl] | rw[if_neg (by decide +kernel)]))
  all_goals rfl
 ·exact((((((((E1.trans E2).trans E3).trans E4).trans E5).trans E6).trans E7).trans E8).trans E9).trans (af.exB ap)
theorem Dp{K:Za}{a b:Addr}{xs ys:List V}{g:TG}{n:TS}{D:eD}{σ:L2.St}{H:Hp}(q:xs.length=ys.length)(Pv:Nat->L2.St->Hp->Prop)(r:Pv 0 σ H)(s:∀i σ H,i<=xs.length->Pv i σ H->cj K H a xs/\cj K H b ys)
  (w:∀i x y σ H p,xs[i]?=some x->ys[i]?=some y->Pv i σ H->H p=none->g (.ref p) σ (upd H p (.tup [x,y])) fun σ2 j=>n { D with nx:=Pv (i+1),ct:=Pv (i+1),bk:=D.nx } σ2 j) (z:∀σ H,Pv xs.length σ H->D.nx σ H) :
  ∃W:Nat->Nat->L2.St->Hp->Prop,(∃m,W 0 m σ H)/\∀i m σ H,W i m σ H ->
   ((DS K a b).stop i H/\D.nx σ H)∨((DS K a b).go i H/\∃N:L2.St->Hp->Prop,(∀σ' d,N σ' d->∃o,o<m/\W (i+1) o σ' d)/\∀x d,(DS K a b).yld i H x d->g x σ d fun σ2 j=>n { D with nx:=N,ct:=N,bk:=D.nx } σ2 j):=by
 refine⟨fun i m σ H=>m=xs.length-i/\i<=xs.length/\Pv i σ H,⟨xs.length,by simp,dY _,r⟩,?_⟩;rintro i m σ H ⟨rfl,hi,p⟩;obtain⟨k,l⟩:=s i σ H hi p;by_cases f:i<xs.length
 ·have h:i<ys.length:=by omega
  refine .inr ⟨⟨xs,ys,xs[i],ys[i],k,l,by simp[f],by simp[h]⟩,Pv (i+1),fun σ' d A=>⟨xs.length-(i+1),by omega,rfl,f,A⟩,fun x d y=>?_⟩;obtain⟨t,u,v,rfl,B,C,E,rfl⟩:=y;exact w i u v σ H t (C xs k) (E ys l) p B
 ·have e:i=xs.length:=by omega
  subst e;exact .inl ⟨⟨xs,ys,k,l,.inl (az _)⟩,z σ H p⟩
theorem bw.by{C:Addr}{H d:Hp}{x:Addr}{q s rooms:Zb}{t:List au}(h:bw C H x q s rooms t)
  (i:∀b u,H b=some (.lst (List.map V.str u))->d b=some (.lst (List.map V.str u))) (v:∀b j,H b=some (.lst (List.map V.ref j))->d b=some (.lst (List.map V.ref j))) (w:lg H d)
  (k:∀b a,H b=some (.dK a)->d b=some (.dK a)) (z:∀b a,H b=some (.dT a)->d b=some (.dT a)) (hi:∀b C e fs,H b=some (.ins C e fs)->d b=some (.ins C e fs)):bw C d x q s rooms t:=by
 obtain⟨e,fs,A,B,D,E,I,J,M,N,j,l,m,n,O,a1,a2,a3,Q,T,U,Y,b4,b5,b6,b7,b8,L,c1,c2,c3,c4,G,d1,d2,d3⟩:=h.at_;refine⟨⟨e,fs,A,B,D,E,I,J,M,N,j,l,m,n,hi _ _ _ _ O,a1,a2,a3,Q,T,U,Y,b4,b5,b6,b7,b8,⟨i _ _ L.a1,i _ _ L.a2,i _ _ L.a3,v _ _ L.a4,L.ds.kt w⟩,c1,k _ _ c2,fun y f=>?_,k _ _ c4,⟨G.nd,z _ _ G.g,fun y f=>i _ _ (G.ls y f),G.all⟩,d1,k _ _ d2,fun y f=>?_⟩,h.ok,by obtain⟨e,fs,g,r⟩:=h.more;exact⟨e,fs,hi _ _ _ _ g,r⟩⟩
 ·obtain⟨us,o,p⟩:=c3 y f;exact⟨us,v _ _ o,p.kt w⟩
 ·obtain⟨L0,o,p⟩:=d3 y f;exact⟨L0,k _ _ o,p⟩
theorem bw.same{C:Addr}{H a:Hp}{x:Addr}{d f rooms:Zb}{g:List au}(h:bw C H x d f rooms g)(S:af H a):bw C a x d f rooms g :=
 h.by (fun _ _ e=>S _ _ e) (fun _ _ e=>S _ _ e) (af.kt S) (fun _ _ e=>S _ _ e) (fun _ _ e=>S _ _ e) (fun _ _ _ _ e=>S _ _ e)
theorem bw.ex{C:Addr}{H d:Hp}{x p c:Addr}{f g rooms:Zb}{i:List au}(h:bw C H x f g rooms i)(a:jV H p c)(S:dH p H d):bw C d x f g rooms i:=by
 obtain⟨xs,hx⟩:=a.lst;exact h.by (fun _ _ e=>S _ _ e (a.ne_strs e)) (fun _ _ e=>S _ _ e (a.ne_refs e)) (S.kt hx) (fun _ _ e=>S _ _ e (fun z=>by rw[z,hx]at e;cases e)) (fun _ _ e=>S _ _ e (fun z=>by rw[z,hx]at e;cases e)) (fun _ _ _ _ e=>S _ _ e (fun z=>by rw[z,hx]at e;cases e))
inductive iC(C:Addr)(vs:List V)(H:Hp)(Q:VK)(E:XK):Prop
 |mk (x:Addr) (w:Str) (J0 J1 rooms:Zb) (ds:List au):(vs=[.ref x,.str w])->(bw C H x J0 J1 rooms ds)->(Q (.bl (decide (w∈rooms.filter (fe ds)))) H)->iC C vs H Q E
theorem wU{K:Za}{C:Addr}(M:MC K C){a:List V}{H:Hp}{Q:VK}{E:XK}(h:iC C a H Q E):mj K (bJ Q) (start mK a) H:=by
 obtain⟨x,w,n,o,rooms,p,rfl,h,k⟩:=h;obtain⟨e,fs,q,r,s,t,u,d,v,y,z,f,g,i,j,a1,a2,a3,A,B,D,G,I,J,l,N,O,L,T,U,Y,m,_⟩:=h.at_;refine⟨_,rfl,_,rfl,x,C,e,fs,.ref d,rfl,j,M.cls,M.a6,l,d,_,rfl,.inl ⟨_,.inr w,.inl m,rfl,rfl⟩,?_⟩;rw[dO];exact k
def bU:List Str:=[("hush":Str)]
inductive jz(C:Addr)(vs:List V)(H:Hp)(Q:VK)(E:XK):Prop
 |mk (t l1 l2 l3 l4:Addr) (ts:Ze) (J0 J1 rooms:Zb) (ds:List au):(vs=[.ref t])->(BS H t l1 l2 l3 l4 ts J0 J1 rooms ds)->(fm J0 J1 rooms ds)->(∀(x:Addr) (H':Hp),bw C H' x J0 J1 rooms ds->af H H'->Q (.ref x) H')->jz C vs H Q E
theorem yB{K:Za}{C:Addr}{A:List V}{H:Hp}{Q:VK}{E:XK}(h:jz C A H Q E):sU K C (qj C) (bJ Q) (start tI A) H:=by
 obtain⟨t,I,J,L,N,e,f,g,rooms,O,rfl,T,m,k⟩:=h;refine⟨_,rfl,.inr (.inl ⟨t,_,0,_,rfl,rfl,cj.of T.t,rfl,.inl ⟨I,_,rfl,.inl (aH.of T.a1),fun p B=>?_⟩⟩)⟩;have r:=T.same (af.new (o:=.lst (f.map V.str)) B);refine⟨_,rfl,.inr (.inl ⟨t,_,1,_,rfl,rfl,cj.of r.t,rfl,.inl ⟨J,_,rfl,.inl (aH.of r.a2),fun s u=>?_⟩⟩)⟩;have v:=r.same (af.new (o:=.lst (g.map V.str)) u);refine⟨_,rfl,.inr (.inl ⟨t,_,2,_,rfl,rfl,cj.of v.t,rfl,.inl ⟨L,_,rfl,.inl (aH.of v.a3),fun w l=>?_⟩⟩)⟩;have y:=v.same (af.new (o:=.lst (rooms.map V.str)) l);refine⟨_,rfl,.inr (.inl ⟨t,_,3,_,rfl,rfl,cj.of y.t,rfl,.inl ⟨N,_,rfl,.inl (aH.of y.a4),fun z i=>?_⟩⟩)⟩;have T4:=y.same (af.new (o:=.lst (e.map V.ref)) i);have D:=(((af.new (o:=.lst (f.map V.str)) B).trans (af.new (o:=.lst (g.map V.str)) u)).trans (af.new (o:=.lst (rooms.map V.str)) l)).trans (af.new (o:=.lst (e.map V.ref)) i);refine fun x n hx a j=>?_;have G:af H (upd (upd (upd (upd (upd (upd H p (.lst (f.map V.str))) s (.lst (g.map V.str))) w (.lst (rooms.map V.str))) z (.lst (e.map V.ref))) n (.own x)) x (.ins C n [])) :=
  (D.trans (af.new a)).trans (af.new (by rw[ah j.symm];exact hx))
 have d:upd (upd (upd (upd (upd H p (.lst (f.map V.str))) s (.lst (g.map V.str))) w (.lst (rooms.map V.str))) z (.lst (e.map V.ref))) n (.own x) x=none:=by rw[ah j.symm];exact hx
 refine⟨x,n,p,s,w,z,e,f,g,rooms,O,rfl,aa,⟨?_,?_,?_,?_,T.ds.kt (af.kt G)⟩,m,fun U M ex=>⟨rfl,k x U M fun b o q=>?_⟩⟩
 ·exact kp (kp (kp (kp (kp aa u) l) i) a) d
 ·exact kp (kp (kp (kp aa l) i) a) d
 ·exact kp (kp (kp aa i) a) d
 ·exact kp (kp aa a) d
 ·have Y:=G _ _ q;exact ex _ _ Y (ae (D.trans (af.new a) _ _ q) d)
def o8(ds:List au):List Str:=(ds.filter fun d=>!nO d).map (·.a)
theorem yH(e:List au)(r:Str):fe e r=decide (r∉o8 e):=by
 unfold fe o8 bQ;rw[tK,List.all_eq_true,decide_eq_true_iff];constructor
 ·intro h z;obtain⟨d,a,rfl⟩:=ay.mp z;rw[c8]at a;have:=h d (c8.mpr ⟨a.1,zzr1 rfl⟩);rw[this]at a;exact absurd a.2 (by decide)
 ·intro h d a;rw[c8]at a;cases q:nO d with
  |true=>rfl
  |false =>
   refine absurd (ay.mpr ⟨d,c8.mpr ⟨a.1,by rw[q];rfl⟩,?_⟩) h;exact of_decide_eq_true a.2
def vj(K:Za)(C_Machine:Addr)(sp_Machine_rooms:Sp)(sp_Machine_led_from:Sp):TS :=
 aw (a_ (oX) U2)
 (aw (fK (gf K V1) U3 (dw (tB (kN K V3 V2)) (aw (kj V2 V3 (tC (.bl true)))
 (fK (gf K (fZ C_Machine "led_from" sp_Machine_led_from [] E0 V0 (aK V3))) U4 (kj V2 V4 (tC (.bl true))))) (bD)))
 (bc (db (Fz K) (aK (gF 1 [2] (gf K (fZ C_Machine "rooms" sp_Machine_rooms [] E0 V0 cv)) U0 (tB (Bb K V0 V1)) V0)))))
def wa:List Str:=["M","rooms","found","room","led"]
def pP(K:Za):TS :=
 bc (db (dU K) (aK (fu K V0 "own_rooms")))
def pZ:List Str:=["self"]
def mh(K:Za):TS :=
 bc (db (dU K) (aK (oY K (fu K V0 "still_led") V1 (bW (cv)))))
def mJ:List Str:=["self","room"]
def pQ(K:Za):TS :=
 bc (db (dU K) (aK (oY K (fu K V0 "sign_goals") (bW (aM V1 V2)) (bW (cv)))))
def p9:List Str:=["self","room","sign"]
inductive kh(C:Addr)(vs:List V)(H:Hp)(Q:VK)(E:XK):Prop
 |mk (x:Addr) (J0 J1 rooms:Zb) (ds:List au):(vs=[.ref x])->(bw C H x J0 J1 rooms ds)->(∀l,H l=none->Q (.ref l) (upd H l (.lst (rooms.map V.str))))->kh C vs H Q E
theorem Cw{K:Za}{C:Addr}(M:MC K C){a:List V}{H:Hp}{Q:VK}{E:XK}(h:kh C a H Q E):pP K (bJ Q) (start pZ a) H:=by
 obtain⟨x,m,n,rooms,o,rfl,h,k⟩:=h;obtain⟨e,fs,p,q,d,r,s,t,u,v,w,f,g,i,j,a1,a2,a3,y,z,A,l,B,D,G,I,J,L,_⟩:=h.at_;exact⟨_,rfl,x,C,e,fs,.ref d,rfl,j,M.cls,M.a3,l,.inl ⟨d,_,rfl,.inl (aH.of L.a3),k⟩⟩
theorem xw:∀{L:Zb},L.Nodup->(aI L).map (fun a=>kV a.1)=L.map V.str:=by
 intro L;refine jb (fun L=>L.Nodup->(aI L).map (fun a=>kV a.1)=L.map V.str) (fun _=>rfl) (fun e w f d=>?_) L;rw[cD]at d;have g:bL (aI e) (.inr w)=none:=by
  rw[se,if_neg (fun z=>d.2.2 w z w (by simp) rfl)]
 show(aI (e++[w])).map _=_;rw[cW,jg _ g,aD,f d.1,aD]
 rfl
inductive iB(C:Addr)(vs:List V)(H:Hp)(Q:VK)(E:XK):Prop
 |mk (x:Addr) (r:Str) (J0 J1 rooms:Zb) (ds:List au):(vs=[.ref x,.str r])->(bw C H x J0 J1 rooms ds)->(r∈rooms)->(∀(l:Addr) (L:Zb) (H':Hp),H' l=some (.lst (L.map V.str))->L.Nodup->(∀w,w∈L↔Reach ds r w)->H l=none->af H H'->Q (.ref l) H')->iB C vs H Q E
theorem wT{K:Za}{C:Addr}(M:MC K C){i:List V}{H:Hp}{Q:VK}{E:XK}(h:iB C i H Q E):mh K (bJ Q) (start mJ i) H:=by
 obtain⟨x,r,J,N,rooms,O,rfl,h,s,k⟩:=h;obtain⟨t,fs,T,U,Y,o4,lv,qu,sg,j,ts,u,v,f,w,a1,a2,a3,a4,b1,b2,b3,b4,b5,b6,b7,y,L,c1,c2,c3,c4,G,m,n,z⟩:=h.at_;have g:=h.ok.okR.1;obtain⟨⟨o,a⟩,e,A⟩:=ay.mp (show r∈f.map (·.1) by rw[m];exact s);obtain rfl:o=r:=A;obtain⟨B,D,p,I⟩:=z _ e;refine⟨_,rfl,x,C,t,fs,.ref j,rfl,w,M.cls,M.a8,y,j,rfl,.inl ⟨_,.inl n⟩,_,rfl,(by show 0<=aj;decide),fun et d=>⟨_,.inl ⟨_,.inr o,.inl (kp n d),rfl,rfl⟩,?_⟩⟩;rw[dL iH (by rw[m];exact g) e];refine .inr ⟨a,_,rfl,.inl (kp D d),fun l q=>k l B _ ?_ p I ((af.new d).free q) ((af.new d).trans (af.new q))⟩;rw[aa,xw p]
inductive je(C:Addr)(vs:List V)(H:Hp)(Q:VK)(E:XK):Prop
 |mk (x s:Addr) (r:Str) (sg J0 J1 rooms:Zb) (ds:List au):(vs=[.ref x,.str r,.ref s])->(bw C H x J0 J1 rooms ds)->(H s=some (.tup (sg.map V.str)))->(∀(l:Addr) (H':Hp),H' l=some (.lst ((bb ds (r,sg)).map V.str))->H l=none->af H H'->Q (.ref l) H')->je C vs H Q E
theorem Bg{K:Za}{C:Addr}(M:MC K C){q:List V}{H:Hp}{Q:VK}{E:XK}(h:je C q H Q E):pQ K (bJ Q) (start p9 q) H:=by
 obtain⟨x,s,r,d,U,Y,rooms,v,rfl,h,w,k⟩:=h;obtain⟨A,fs,o1,o2,o3,o4,lv,qu,t,sl,ts,B,j,D,I,a1,a2,a3,a4,b1,b2,b3,b4,b5,b6,J,b8,L,c1,c2,c3,c4,G,d1,d2,d3⟩:=h.at_;have N:=h.ok.okR.1;refine⟨_,rfl,x,C,A,fs,.ref t,rfl,I,M.cls,M.a7,J,t,rfl,.inr ⟨_,.inl G.g⟩,_,rfl,_,rfl,(by show 2<=aj;decide),fun kt i=>⟨(by show 0<=aj;decide),fun u f=>⟨bL (da sQ j) (sQ (r,d)),.inr ⟨_,sQ (r,d),kt,.inl (kp (kp G.g i) f),rfl,?_,kQ _,rfl⟩,?_⟩⟩⟩
 ·refine fx.isIn 8 (kQ _) ?_;unfold sQ fx;refine⟨kt,_,rfl,kp aa f,?_⟩;unfold TKAts;refine⟨_,_,rfl,vh _,?_⟩;unfold TKAts;refine⟨_,_,rfl,SignAt.tk (kp (kp w i) f),?_⟩;unfold TKAts
  rfl
 have m:af H (upd (upd H kt (.tup [.str r,.ref s])) u (.tup [])):=(af.new i).trans (af.new f);by_cases e:(r,d)∈j.map (·.1)
 ·obtain⟨⟨y,a⟩,n,O⟩:=ay.mp e;obtain rfl:y=(r,d):=O;rw[dL gK G.nd n];exact .inl ⟨a,_,rfl,.inl (aH.of (m _ _ (G.ls _ n))),fun l o=>k l _ aa (m.free o) (m.trans (af.new o))⟩
 ·rw[kT gK e];have p:bb v (r,d)=[]:=kD fun y T z=>e (by rw[<-z];exact G.all y T);refine .inl ⟨u,[],rfl,.inr (cj.of aa),fun l o=>k l _ ?_ (m.free o) (m.trans (af.new o))⟩;rw[p];exact aa
theorem Reach.trans{ds:List au}{a b c:Str}(d:Reach ds a b)(e:Reach ds b c):Reach ds a c:=by
 induction e with
 |one h=>exact .step d h
 |step r h f=>exact .step f h
def p_(ds:List au)(gs:Zb)(w:Str):Prop:=∃g∈gs,w=g∨Reach ds g w
theorem p_.in_{a:List au}{e rooms:Zb}{w:Str}(f:∀g∈e,g∈rooms)(i:∀d∈a,d.b∈rooms)(h:p_ a e w):w∈rooms:=by
 obtain⟨g,j,rfl|h2⟩:=h
 ·exact f _ j
 ·exact h2.in_ i
def pX(F:Zb)(w:Str):List Str:=if w∈F then F else F++[w]
theorem xv(F:Zb):∀d∈aI F,d.2=.bl true:=by
 refine jb (fun F=>∀d∈aI F,d.2=.bl true) (by intro d h;cases h) (fun f w e=>?_) F;intro d a;rw[cW]at a;unfold dI at a;split at a
 ·obtain⟨x,hx,rfl⟩:=ay.mp a;split
  ·rfl
  ·exact e x hx
 ·rcases bM.mp a with h|h
  ·exact e d h
  ·have:d=(.inr w,.bl true):=by simpa using h
   rw[this]
theorem sh(F:Zb)(w:Str):dI (aI F) (.inr w) (.bl true)=aI (pX F w):=by
 unfold pX;by_cases c:w∈F
 ·rw[if_pos c];have e:((aI F).any fun a=>decide (a.1=(.inr w:dg)))=true:=by
   rw[i_,dO,zzr1 c]
  unfold dI;rw[if_pos e];have:∀l:List (dg×V),(∀a∈l,a.2=.bl true)->l.map (fun a=>if a.1=(.inr w:dg)then(a.1,V.bl true)else a)=l:=by
   intro l
   induction l with
   |nil=>intro _;rfl
   |cons x l f =>
    intro h;rw[bg,f fun a d=>h a (cO _ d)];congr 1;split
    ·rw[<-h x b_]
    ·rfl
  exact this _ (xv F)
 ·rw[if_neg c,cW]
theorem sF{F:Zb}(h:F.Nodup)(w:Str):(pX F w).Nodup:=by
 unfold pX;split
 ·exact h
 ·next c =>
  rw[cD];refine⟨h,by simp,fun a d b f e=>?_⟩;have:b=w:=by simpa using f
  exact c (by rw[<-this,<-e];exact d)
theorem xj{F:Zb}{w y:Str}:y∈pX F w↔y∈F∨y=w:=by
 unfold pX;split
 ·next c=>exact⟨.inl,fun h=>h.elim id fun e=>by rw[e];exact c⟩
 ·rw[bM];simp
inductive sp_with_still(C:Addr)(vs:List V)(H:Hp)(Q:VK)(E:XK):Prop
 |mk (x l:Addr) (gs J0 J1 rooms:Zb) (ds:List au):(vs=[.ref x,.ref l])->(bw C H x J0 J1 rooms ds)->(H l=some (.lst (gs.map V.str)))->((∀g∈gs,g∈rooms))->(∀(t:Addr) (F:Zb) (H':Hp),H' t=some (.tup ((rooms.filter fun r=>decide (r∈F)).map V.str))->(∀w,w∈F↔p_ ds gs w)->af H H'->Q (.ref t) H')->sp_with_still C vs H Q E
theorem tf{K:Za}{C:Addr}{B:List V}{H:Hp}{Q:VK}{E:XK}(h:sp_with_still C B H Q E):vj K C (kh C) (iB C) (bJ Q) (start wa B) H:=by
 obtain⟨x,l,gs,J0,J1,rooms,D,rfl,M,hl,hg,k⟩:=h;have O:∀d∈D,d.b∈rooms:=fun d hd=>(M.ok.good d hd).b;have z3:=M.ok.rooms26;refine fun d hd=>?_;refine⟨_,rfl,l,rfl,⟨_,aH.of (kp hl hd)⟩,?_⟩
 let aN:Nat->L2.St->Hp->Prop:=fun i σ a=>GZ fun(F:Zb) (x3 x4:Option V)=>G0 (σ=[some (.ref x),some (.ref l),some (.ref d),x3,x4]) (a d=some (.dK (aI F))) (af H a) (F.Nodup) (∀w,w∈F↔p_ D (gs.take i) w)
 refine fk (xs:=gs.map V.str) aN
  ⟨[],_,_,rfl,aa,af.new hd,oF,fun w=>⟨fun h=>(by cases h),fun⟨g,h,_⟩=>(by cases h)⟩⟩ (fun i σ a _ zq=>by obtain⟨_,_,_,_,_,S,_,_⟩:=zq;exact aH.of (S _ _ hl)) ?_ ?_
 ·rintro i y σ G hi ⟨F,x3,x4,rfl,p,S1,nd,T⟩;obtain⟨r,hr,rfl⟩:=cw hi;have an:r∈rooms:=hg r (gp hr);have ap:∀w∈F,w∈rooms:=fun w hw=>((T w).mp hw).in_ (fun g hg'=>hg g (gj hg')) O;refine⟨_,rfl,_,rfl,d,_,rfl,.inl ⟨_,.inr r,.inl p,rfl,rfl⟩,_,rfl,?_⟩;rw[dO];have s:∀w,p_ D (gs.take (i+1)) w↔(p_ D (gs.take i) w∨w=r∨Reach D r w):=by
   intro w;rw[take_snoc hr];constructor
   ·rintro⟨g,hg',h⟩;rcases bM.mp hg' with hg'|hg'
    ·exact .inl ⟨g,hg',h⟩
    ·have:g=r:=by simpa using hg'
     subst this;exact .inr h
   ·rintro(⟨g,hg',h⟩|h)
    ·exact⟨g,eM _ hg',h⟩
    ·exact⟨r,dA _ (by simp),h⟩
  by_cases c:r∈F
  ·rw[zzr1 c];refine cF ⟨F,_,_,rfl,p,S1,nd,fun w=>?_⟩;rw[s,T];refine⟨.inl,fun h=>h.elim id fun h=>?_⟩;obtain⟨g,hg',hgr⟩:=(T r).mp c;rcases h with h|h
   ·rw[h];exact⟨g,hg',hgr⟩
   ·refine⟨g,hg',.inr ?_⟩;rcases hgr with e|hgr
    ·rw[<-e];exact h
    ·exact hgr.trans h
  ·rw[zzr0 c];refine cZ ?_;have m:∀{F:Zb},F.Nodup->(∀w∈F,w∈rooms)->(aI F).length<aj:=fun nd hs=>av (bN (jF _) (bN (r6 nd hs) (by omega)));refine⟨_,rfl,_,rfl,d,_,rfl,.inl ⟨_,.inr r,p,rfl,m nd ap,rfl⟩,?_⟩;rw[sh];have U:af H (upd G d (.dK (aI (pX F r)))):=fun b o q=>by rw[ah (ae q hd)];exact S1 _ _ q
   have n:upd G d (.dK (aI (pX F r))) d=some (.dK (aI (pX F r))):=aa;generalize upd G d (.dK (aI (pX F r)))=H2 at U n ⊢;have M2:=M.same U;obtain⟨dx,fs,o1,o2,o3,o4,lv,qu,sg,sl,ts,aT,aX,a0,g1,a1,a2,a3,a4,_⟩:=M2.at_;refine⟨_,rfl,x,dx,fs,rfl,g1,a3,_,rfl,x,r,J0,J1,rooms,D,rfl,M2,an,fun ll L H3 as bi hL Y S3=>⟨ll,rfl,⟨_,aH.of as⟩,?_⟩⟩;have a5:=S3 _ _ n;have bl:H ll=none:=U.free Y;have a6:ll≠d:=fun z=>by rw[z,n]at Y;cases Y
   let a7:Nat->L2.St->Hp->Prop:=fun j σ a=>HA fun(I:Zb) (x4:Option V)=>HB (σ=[some (.ref x),some (.ref l),some (.ref d),some (.str r),x4]) (a d=some (.dK (aI I))) (a ll=some (.lst (L.map V.str))) (af H a) (I.Nodup) (∀w,w∈I↔(p_ D (gs.take i) w∨w=r∨w∈L.take j))
   refine fk (xs:=L.map V.str) a7
    ⟨pX F r,_,rfl,a5,as,U.trans S3,sF nd r,fun w=>?_⟩ (fun j σ a _ zq=>by obtain⟨_,_,_,_,h,_,_,_⟩:=zq;exact aH.of h) ?_ ?_
   ·rw[xj,T];simp
   ·rintro j y σ H4 hj ⟨I,a8,rfl,ab,J,S4,A,u⟩;obtain⟨v,hv,rfl⟩:=cw hj;have al:∀w∈I,w∈rooms:=by
     intro w hw;rcases(u w).mp hw with h|h|h
     ·exact h.in_ (fun g hg'=>hg g (gj hg')) O
     ·rw[h];exact an
     ·exact((hL w).mp (gj h)).in_ O
    refine⟨_,rfl,_,rfl,d,_,rfl,.inl ⟨_,.inr v,ab,rfl,m A al,rfl⟩,pX I v,_,rfl,?_,?_,?_,sF A v,fun w=>?_⟩
    ·rw[aa,sh]
    ·rw[ah a6];exact J
    ·intro b o q;rw[ah (ae q hd)];exact S4 _ _ q
    ·rw[xj,u,take_snoc hv,bM];simp only[eT];constructor
     ·rintro((h|h|h)|h)
      ·exact .inl h
      ·exact .inr (.inl h)
      ·exact .inr (.inr (.inl h))
      ·exact .inr (.inr (.inr h))
     ·rintro(h|h|h|h)
      ·exact .inl (.inl h)
      ·exact .inl (.inr (.inl h))
      ·exact .inl (.inr (.inr h))
      ·exact .inr h
   ·rintro σ H4 ⟨I,a8,rfl,ab,J,S4,A,u⟩;rw[ao,bC]at u;refine⟨I,_,_,rfl,ab,S4,A,fun w=>?_⟩;rw[s,u,hL]
 ·rintro σ G ⟨F,x3,x4,rfl,p,S1,nd,T⟩;rw[ao,bC]at T;have M1:=M.same S1;obtain⟨dx,fs,o1,o2,o3,o4,lv,qu,sg,sl,ts,aT,aX,a0,g1,a1,a2,a3,a4,_⟩:=M1.at_;refine⟨_,rfl,x,dx,fs,rfl,g1,a4,x,J0,J1,rooms,D,rfl,M1,fun rl aC=>⟨rl,rfl,⟨_,aH.of aa⟩,fun f hf=>?_⟩⟩;have U:af H (upd G rl (.lst (rooms.map V.str))):=S1.trans (af.new aC);have n:upd G rl (.lst (rooms.map V.str)) d=some (.dK (aI F)):=kp p aC;have N:upd G rl (.lst (rooms.map V.str)) rl=some (.lst (rooms.map V.str)):=aa;generalize upd G rl (.lst (rooms.map V.str))=H2 at U n N hf ⊢
  let a9:Nat->List V->Hp->Prop:=fun i B a=>B=((rooms.take i).filter fun r=>decide (r∈F)).map V.str/\af H2 a/\a f=some (.lst B)
  refine gX (xs:=rooms.map V.str) a9 ⟨rfl,af.new hf,aa⟩ (fun i B a _ zq=>by obtain⟨_,S,h'⟩:=zq;exact⟨h',aH.of (S _ _ N)⟩) ?_ ?_
  ·rintro B a ⟨rfl,S,f'⟩;rw[ao,bC]at f';exact⟨f,_,rfl,.inl ⟨aH.of f',fun t ht=>k t F _ aa T (U.trans (S.trans (af.new ht)))⟩⟩
  ·rintro i B a x' bd hi ⟨rfl,S,f'⟩;obtain⟨r,hr,rfl⟩:=cw bd;refine gN ?_;refine⟨_,rfl,_,rfl,d,_,rfl,.inl ⟨_,.inr r,.inl (S _ _ n),rfl,rfl⟩,_,rfl,?_⟩;rw[dO];have m:(((rooms.take i).filter fun r=>decide (r∈F)).map V.str).length<aj:=by
    rw[ao];refine av (bN (iM _ _) ?_);rw[bf];omega
   refine tD (fun hq=>?_) (fun hq=>?_)
   ·refine⟨_,rfl,f',m,AC hi ⟨?_,?_,aa⟩⟩
    ·rw[eK hr,if_pos hq,aD];rfl
    ·intro b o q;rw[ah (ae q hf)];exact S _ _ q
   ·refine AC hi ⟨?_,S,f'⟩;rw[eK hr,if_neg hq,cp]
theorem Fb(a b:Zb):decide (xB a=xB b)=decide (a=b):=by
 by_cases e:a=b
 ·rw[zzr1 e,zzr1 (by rw[e])]
 ·rw[zzr0 e,zzr0 (fun z=>e (AM z))]
def cS(ds:List au)(sg:Zb)(J5:Zb):List Str:=J5.flatMap fun r=>bb ds (r,sg)
theorem tF{a:List au}{d e:Zb}{i:Nat}{r:Str}(h:e[i]?=some r):cS a d (e.take (i+1))=cS a d (e.take i)++bb a (r,d):=by
 unfold cS;rw[take_snoc h,List.flatMap_append];simp
theorem pM(a:List au)(x:Str×List Str):(bb a x).length<=a.length:=by
 unfold bb;rw[ao];exact iM _ _
theorem nP(a:List au)(e:Zb):∀d:List Str,(cS a e d).length<=d.length * a.length
 |[]=>dY _
 |r::d=>by
  show((bb a (r,e))++cS a e d).length<=(d.length+1) * a.length;rw[aL,Nat.succ_mul];have f:=pM a (r,e);have g:=nP a e d;omega
theorem gM{d:List au}{e f:Zb}{b:Str}:b∈cS d e f↔∃r∈f,(⟨r,e,b⟩:au)∈d:=by
 unfold cS;rw[List.mem_flatMap];constructor
 ·rintro⟨r,a,h⟩;exact⟨r,a,gb.mp h⟩
 ·rintro⟨r,a,h⟩;exact⟨r,a,gb.mpr h⟩
inductive nr(C:Addr)(vs:List V)(H:Hp)(Q:VK)(E:XK):Prop
 |mk (x t s:Addr) (J5 sg J0 J1 rooms:Zb) (ds:List au):(vs=[.ref x,.ref t,.ref s])->(bw C H x J0 J1 rooms ds)->(H t=some (.tup (J5.map V.str)))->(H s=some (.tup (sg.map V.str)))->(sg≠bU)->(J5.length<=1000)->(∀(t':Addr) (F:Zb) (H':Hp),H' t'=some (.tup ((rooms.filter fun r=>decide (r∈F)).map V.str))->(∀w,w∈F↔p_ ds (cS ds sg J5) w)->af H H'->Q (.ref t') H')->nr C vs H Q E
theorem vG{K:Za}{C L:Addr}(v:∀H,cj K H L (bU.map V.str)){z:Sp}{N:List V}{H:Hp}{Q:VK}{E:XK}(h:nr C N H Q E):
  lM K (sp_with_still C) C (je C) L z (bJ Q) (start lO N) H:=by
 obtain⟨x,t,s,j,f,O,T,rooms,e,rfl,M,U,Y,A,hz,k⟩:=h;have B:∀d∈e,d.b∈rooms:=fun d hd=>(M.ok.good d hd).b;have z4:=M.ok.few;refine⟨_,rfl,xB f,xB bU,jm (cj.of Y),jm (v _),by rw[k9];decide,by rw[k9];decide,_,rfl,?_⟩;rw[Fb,zzr0 A];refine cF ?_;refine⟨(by show 0<=aj;decide),fun g D=>?_⟩;refine⟨_,rfl,t,rfl,⟨_,cj.of (kp U D)⟩,?_⟩
 let G:Nat->L2.St->Hp->Prop:=fun i σ n=>∃I:Option V,σ=[some (.ref x),some (.ref t),some (.ref s),some (.ref g),I]/\n g=some (.lst ((cS e f (j.take i)).map V.str))/\af H n
 refine AN (xs:=j.map V.str) G
  ⟨_,rfl,aa,af.new D⟩ (fun i σ n _ zq=>by obtain⟨_,_,_,S⟩:=zq;exact cj.of (S _ _ U)) ?_ ?_
 ·rintro i y σ H1 hi ⟨I,rfl,a,m⟩;obtain⟨r,hr,rfl⟩:=cw hi;have M1:=M.same m;obtain⟨dx,fs,o1,o2,o3,o4,lv,qu,ab,sl,ts,al,an,ap,g1,a1,a2,a3,a4,_⟩:=M1.at_;refine⟨_,rfl,.inl ⟨rfl,_,aH.of a⟩,_,rfl,x,dx,fs,rfl,g1,a2,_,rfl,_,rfl,x,s,r,f,O,T,rooms,e,rfl,M1,m _ _ Y,fun l H2 hl fr u=>?_⟩;have J:=u _ _ a;have p:((cS e f (j.take i)).map V.str).length+((bb e (r,f)).map V.str).length<=aj:=by
   rw[ao,ao];have h1:=nP e f (j.take i);have h2:=pM e (r,f);have h3:(j.take i).length * e.length<=1000 * 1000:=Nat.mul_le_mul (by rw[bf];omega) z4;have:(1001000:Nat)<=aj:=by decide
   omega
  refine⟨g,l,_,_,rfl,rfl,J,hl,p,_,rfl,?_,?_⟩
  ·rw[aa,tF hr,aD]
  ·intro b o q;rw[ah (ae q D)];exact u _ _ (m _ _ q)
 ·rintro σ H1 ⟨I,rfl,a,m⟩;rw[ao,bC]at a;refine⟨_,rfl,_,rfl,x,g,cS e f j,O,T,rooms,e,rfl,M.same m,a,fun w hw=>?_,fun t' F n h1 h2 u=>k t' F n h1 h2 (m.trans u)⟩;obtain⟨r,_,h⟩:=gM.mp hw;exact B _ h
def vn(K:Za)(sp_with_still:Sp)(C_Machine:Addr)(sp_Machine_rooms:Sp):TS :=
 bc (bG sp_with_still (aM V0 (DV (Bi K) (fZ C_Machine "rooms" sp_Machine_rooms [] E0 V0 cv) (gH) (kf (tC (.int 1))))))
def we:List Str:=["M"]
inductive de(C:Addr)(vs:List V)(H:Hp)(Q:VK)(E:XK):Prop
 |mk (x:Addr) (J0 J1 rooms:Zb) (ds:List au):(vs=[.ref x])->(bw C H x J0 J1 rooms ds)->(∀(t':Addr) (F:Zb) (H':Hp),H' t'=some (.tup ((rooms.filter fun r=>decide (r∈F)).map V.str))->(∀w,w∈F↔p_ ds (rooms.take 1) w)->af H H'->Q (.ref t') H')->de C vs H Q E
theorem tm{K:Za}{C:Addr}{d:List V}{H:Hp}{Q:VK}{E:XK}(h:de C d H Q E):vn K (sp_with_still C) C (kh C) (bJ Q) (start we d) H:=by
 obtain⟨x,e,f,rooms,i,rfl,M,k⟩:=h;obtain⟨m,fs,D,G,I,J,L,N,n,O,T,o,p,q,r,a1,a2,a3,s,_⟩:=M.at_;have t:lE (rooms.map V.str) none (some 1)=(rooms.take 1).map V.str:=AV rooms 1;refine⟨_,rfl,_,rfl,x,m,fs,rfl,r,s,x,e,f,rooms,i,rfl,M,fun j a=>⟨_,rfl,j,_,rfl,aH.of aa,fun l u=>?_⟩⟩;rw[t];have S:af H (upd (upd H j (.lst (rooms.map V.str))) l (.lst ((rooms.take 1).map V.str))):=(af.new a).trans (af.new u);exact⟨x,l,rooms.take 1,e,f,rooms,i,rfl,M.same S,aa,fun g v=>gj v,fun w F y z A B=>k w F y z A (S.trans B)⟩
theorem Dq{K:Za}{a b:Addr}{xs ys:List V}{g:TG}{n:TS}{D:eD}{σ:L2.St}{H:Hp}(q:xs.length=ys.length)(Pv:Nat->L2.St->Hp->Prop)(r:Pv 0 σ H)(s:∀i σ H,i<=xs.length->Pv i σ H->aH K H a xs/\aH K H b ys)
  (w:∀i x y σ H p,xs[i]?=some x->ys[i]?=some y->Pv i σ H->H p=none->g (.ref p) σ (upd H p (.tup [x,y])) fun σ2 j=>n { D with nx:=Pv (i+1),ct:=Pv (i+1),bk:=D.nx } σ2 j) (z:∀σ H,Pv xs.length σ H->D.nx σ H) :
  ∃W:Nat->Nat->L2.St->Hp->Prop,(∃m,W 0 m σ H)/\∀i m σ H,W i m σ H ->
   ((HD K a b).stop i H/\D.nx σ H)∨((HD K a b).go i H/\∃N:L2.St->Hp->Prop,(∀σ' d,N σ' d->∃o,o<m/\W (i+1) o σ' d)/\∀x d,(HD K a b).yld i H x d->g x σ d fun σ2 j=>n { D with nx:=N,ct:=N,bk:=D.nx } σ2 j):=by
 refine⟨fun i m σ H=>m=xs.length-i/\i<=xs.length/\Pv i σ H,⟨xs.length,by simp,dY _,r⟩,?_⟩;rintro i m σ H ⟨rfl,hi,p⟩;obtain⟨k,l⟩:=s i σ H hi p;by_cases f:i<xs.length
 ·have h:i<ys.length:=by omega
  refine .inr ⟨⟨xs,ys,xs[i],ys[i],k,l,by simp[f],by simp[h]⟩,Pv (i+1),fun σ' d A=>⟨xs.length-(i+1),by omega,rfl,f,A⟩,fun x d y=>?_⟩;obtain⟨t,u,v,rfl,B,C,E,rfl⟩:=y;exact w i u v σ H t (C xs k) (E ys l) p B
 ·have e:i=xs.length:=by omega
  subst e;exact .inl ⟨⟨xs,ys,k,l,.inl (az _)⟩,z σ H p⟩
theorem cj.same{K:Za}{H d:Hp}{a:Addr}{xs:List V}(S:af H d)(h:cj K H a xs):cj K d a xs:=by
 rcases h with(h|⟨o,h⟩)|h
 ·exact .inl (.inl (S _ _ h))
 ·exact .inl (.inr ⟨o,S _ _ h⟩)
 ·exact .inr h
theorem aH.same{K:Za}{H d:Hp}{a:Addr}{xs:List V}(S:af H d)(h:aH K H a xs):aH K d a xs:=by
 rcases h with(h|⟨o,h⟩)|h
 ·exact .inl (.inl (S _ _ h))
 ·exact .inl (.inr ⟨o,S _ _ h⟩)
 ·exact .inr h
mutual
theorem lH.same{K:Za}{H f:Hp}(S:af H f):∀{d:DT}{v:V},lH K H d v->lH K f d v
 |.k a,v,h=>by unfold lH at h ⊢;exact h
 |.t l,v,h=>by
  unfold lH at h ⊢;obtain⟨b,xs,e,q,r⟩:=h;exact⟨b,xs,e,cj.same S q,DIns.same S r⟩
 |.s l,v,h=>by
  unfold lH at h ⊢;obtain⟨b,xs,e,q,r⟩:=h;exact⟨b,xs,e,aH.same S q,DIns.same S r⟩
theorem DIns.same{K:Za}{H g:Hp}(S:af H g):∀{f:List DT}{a:List V},DIns K H f a->DIns K g f a
 |[],a,h=>by unfold DIns at h ⊢;exact h
 |d::f,a,h=>by
  unfold DIns at h ⊢;obtain⟨v,i,e,q,r⟩:=h;exact⟨v,i,e,lH.same S q,DIns.same S r⟩
end
theorem DIns.get{K:Za}{H:Hp}:∀{f:List DT}{a:List V}{i:Nat}{v:V},DIns K H f a->a[i]?=some v->∃d,f[i]?=some d/\lH K H d v
 |[],a,i,v,h,e=>by unfold DIns at h;subst h;simp at e
 |d::f,a,i,v,h,e=>by
  unfold DIns at h;obtain⟨l,m,rfl,q,r⟩:=h;cases i with
  |zero=>simp at e;subst e;exact⟨d,rfl,q⟩
  |succ i =>
   simp at e;obtain⟨g,j,k⟩:=DIns.get r e;exact⟨g,by simpa using j,k⟩
theorem DIns.len{K:Za}{H:Hp}:∀{e:List DT}{a:List V},DIns K H e a->a.length=e.length
 |[],a,h=>by unfold DIns at h;subst h;rfl
 |d::e,a,h=>by
  unfold DIns at h;obtain⟨f,g,rfl,q,r⟩:=h;rw[dj,dj,DIns.len r]
theorem ie{n:Nat}:∀{a:List DT}{i:Nat}{d:DT},DT.depths a<=n->a[i]?=some d->d.depth<=n
 |[],i,d,_,e=>by simp at e
 |x::a,i,d,h,e=>by
  have f:max (DT.depth x) (DT.depths a)<=n:=h;cases i with
  |zero=>simp at e;subst e;omega
  |succ i=>simp at e;exact ie (by omega) e
theorem AO{l:List DT}{n:Nat}(h:(DT.t l).depth<=n+1):DT.depths l<=n:=by
 have:DT.depths l+1<=n+1:=h;omega
theorem AQ{l:List DT}{n:Nat}(h:(DT.s l).depth<=n+1):DT.depths l<=n:=by
 have:DT.depths l+1<=n+1:=h;omega
theorem DB{l:List DT}{n:Nat}(h:(DT.t l).depth<=n):1<=n:=by
 have:DT.depths l+1<=n:=h;omega
theorem DC{l:List DT}{n:Nat}(h:(DT.s l).depth<=n):1<=n:=by
 have:DT.depths l+1<=n:=h;omega
inductive wR(K:Za)(n:Nat)(vs:List V)(H:Hp)(Q:VK)(E:XK):Prop
 |mk (x y:V) (d e:DT):(vs=[x,y])->(lH K H d x)->(lH K H e y)->(d.depth<=n)->(e.depth<=n)->(∀H',af H H'->Q (.bl (decide (d=e))) H')->wR K n vs H Q E
inductive wS (vs:List V)(H:Hp)(Q:VK)(E:XK):Prop
 |mk (a b:Bool):(vs=[.bl a,.bl b])->(Q (.bl (decide (a=b))) H)->wS  vs H Q E
def iA(K:Za)(n:Nat):Sp:=fun vs H Q E=>wR K n vs H Q E∨wS vs H Q E
inductive Kd(K:Za)(H:Hp):DT->V->Prop
 |int (i:Int):Kd K H (.k (.inl i)) (.int i)
 |str (x:Str):Kd K H (.k (.inr x)) (.str x)
 |tup {a:Addr}{xs:List V}{l:List DT}(q:cj K H a xs) (r:DIns K H l xs):Kd K H (.t l) (.ref a)
 |lst {a:Addr}{xs:List V}{l:List DT}(q:aH K H a xs) (r:DIns K H l xs):Kd K H (.s l) (.ref a)
theorem lH.kd{K:Za}{H:Hp}:∀{d:DT}{v:V},lH K H d v->Kd K H d v
 |.k (.inl i),v,h=>by unfold lH at h;subst h;exact .int i
 |.k (.inr x),v,h=>by unfold lH at h;subst h;exact .str x
 |.t l,v,h=>by
  unfold lH at h;obtain⟨b,xs,rfl,q,r⟩:=h;exact .tup q r
 |.s l,v,h=>by
  unfold lH at h;obtain⟨b,xs,rfl,q,r⟩:=h;exact .lst q r
theorem jn(c:Bool):(!decide (V.bl c=V.bl c))=false:=by rw[zzr1 rfl];rfl
theorem pF{K:Za}{a:Sp}{H:Hp}{Q:VK}{x:V}{b:Addr}{t:Value}(ty:DY K H (.ref b) t)(hi:gC K t (.type "int")=some false)(e:gC K t (.type "str")=some false)
  (k:(aw (dw (DW (bX (aJ Am (db (h9 K) (aM V1 (tC (.ty "tuple")))) (db (h9 K) (aM V0 (tC (.ty "tuple")))))) (bX (aJ Am (db (h9 K) (aM V1 (tC (.ty "list")))) (db (h9 K) (aM V0 (tC (.ty "list"))))))) (bc (tC (.bl false))) (bD))
 (aw (dw (bX (aJ Am (db (f8 K) (aK V0)) (db (f8 K) (aK V1)))) (bc (tC (.bl false))) (bD))
 (aw (fK (xy K (aM V0 V1)) (mz K 2 (ca U2 (ca U3 (mB)))) (dw (Ba (tB (bG a (aM V2 V3)))) (bc (tC (.bl false))) (bD)))
 (bc (tC (.bl true)))))) (bJ Q) [some x,some (.ref b),none,none] H) :
  rF K a (bJ Q) [some x,some (.ref b),none,none] H:=by
 have f:decide (V.ref b=V.non)=false:=zzr0 nofun;have d:∀c,decide (V.ref b=V.bl c)=false:=fun c=>zzr0 nofun;refine⟨_,rfl,_,rfl,?_⟩;rw[f];refine cF ?_;refine⟨_,rfl,_,rfl,_,rfl,?_⟩;rw[d];refine cF ?_;refine⟨_,rfl,_,rfl,_,rfl,?_⟩;rw[d];refine cF ?_;refine⟨_,rfl,.ref b,"int",t,false,rfl,ty,hi,_,rfl,cF ?_⟩;refine⟨_,rfl,.ref b,"str",t,false,rfl,ty,e,_,rfl,cF ?_⟩;exact k
theorem Cv{K:Za}{n:Nat}(hn:n<=8){sp:Sp}(O:∀m,n=m+1->sp=iA K m){vs:List V}{H:Hp}{Q:VK}{E:XK}(h:iA K n vs H Q E):rF K sp (bJ Q) (start zE vs) H:=by
 rcases h with h|h;rotate_left
 ·obtain⟨a,b,rfl,k⟩:=h;have T:decide (V.bl b=V.non)=false:=zzr0 nofun;have J:∀c,decide (V.bl b=V.bl c)=decide (b=c):=fun c=>by cases b<;>cases c<;>rfl
  have e3:∀c,decide (V.bl a=V.bl c)=decide (a=c):=fun c=>by cases a<;>cases c<;>rfl
  refine⟨_,rfl,_,rfl,?_⟩;rw[T];refine cF ?_;refine⟨_,rfl,_,rfl,_,rfl,?_⟩;rw[J];cases b with
  |true =>
   refine cZ ?_;refine⟨_,rfl,_,rfl,?_⟩;rw[e3];exact k
  |false =>
   refine cF ?_;refine⟨_,rfl,_,rfl,_,rfl,?_⟩;rw[J];refine cZ ?_;refine⟨_,rfl,_,rfl,?_⟩;rw[e3];exact k
 obtain⟨x,y,d,e,rfl,hd,he,zd,ze,k⟩:=h;have g:=k H (af.refl H);have ab:=lH.kd he;have B:=lH.kd hd;cases ab with
 |int i =>
  have T:decide (V.int i=V.non)=false:=zzr0 nofun;have J:∀c,decide (V.int i=V.bl c)=false:=fun c=>zzr0 nofun;refine⟨_,rfl,_,rfl,?_⟩;rw[T];refine cF ?_;refine⟨_,rfl,_,rfl,_,rfl,?_⟩;rw[J];refine cF ?_;refine⟨_,rfl,_,rfl,_,rfl,?_⟩;rw[J];refine cF ?_;refine⟨_,rfl,.int i,"int",_,true,rfl,.inl (gg.int i),rfl,_,rfl,cZ ?_⟩;cases B with
  |int j =>
   refine⟨_,rfl,.int j,"int",_,true,rfl,.inl (gg.int j),rfl,_,rfl,cZ ?_⟩;refine⟨_,rfl,.int j,"bool",_,false,rfl,.inl (gg.int j),rfl,_,rfl,_,rfl,cZ ?_⟩;exact⟨_,rfl,_,rfl,_,_,hd,he,by omega,by omega,g⟩
  |str z =>
   refine⟨_,rfl,.str z,"int",_,false,rfl,.inl (gg.str z),rfl,_,rfl,cF ?_⟩;rw[zzr0 nofun]at g;exact g
  |tup q r =>
   refine⟨_,rfl,.ref _,"int",_,false,rfl,.inr (.inl ⟨_,_,rfl,rfl,q⟩),rfl,_,rfl,cF ?_⟩;rw[zzr0 nofun]at g;exact g
  |lst q r =>
   refine⟨_,rfl,.ref _,"int",_,false,rfl,.inr (.inr ⟨_,_,rfl,rfl,q⟩),rfl,_,rfl,cF ?_⟩;rw[zzr0 nofun]at g;exact g
 |str b =>
  have T:decide (V.str b=V.non)=false:=zzr0 nofun;have J:∀c,decide (V.str b=V.bl c)=false:=fun c=>zzr0 nofun;refine⟨_,rfl,_,rfl,?_⟩;rw[T];refine cF ?_;refine⟨_,rfl,_,rfl,_,rfl,?_⟩;rw[J];refine cF ?_;refine⟨_,rfl,_,rfl,_,rfl,?_⟩;rw[J];refine cF ?_;refine⟨_,rfl,.str b,"int",_,false,rfl,.inl (gg.str b),rfl,_,rfl,cF ?_⟩;refine⟨_,rfl,.str b,"str",_,true,rfl,.inl (gg.str b),rfl,_,rfl,cZ ?_⟩;cases B with
  |int j =>
   refine⟨_,rfl,.int j,"str",_,false,rfl,.inl (gg.int j),rfl,_,rfl,cF ?_⟩;rw[zzr0 nofun]at g;exact g
  |str z =>
   refine⟨_,rfl,.str z,"str",_,true,rfl,.inl (gg.str z),rfl,_,rfl,cZ ?_⟩;exact⟨_,rfl,_,rfl,_,_,hd,he,by omega,by omega,g⟩
  |tup q r =>
   refine⟨_,rfl,.ref _,"str",_,false,rfl,.inr (.inl ⟨_,_,rfl,rfl,q⟩),rfl,_,rfl,cF ?_⟩;rw[zzr0 nofun]at g;exact g
  |lst q r =>
   refine⟨_,rfl,.ref _,"str",_,false,rfl,.inr (.inr ⟨_,_,rfl,rfl,q⟩),rfl,_,rfl,cF ?_⟩;rw[zzr0 nofun]at g;exact g
 |@tup b ys U C re =>
  have ty:DY K H (.ref b) (.type "tuple"):=.inr (.inl ⟨_,_,rfl,rfl,C⟩);refine pF ty rfl rfl ?_;have no:∀(t:Value),DY K H x t->gC K t (.type "tuple")=some false->¬d=.t U->(aw (dw (DW (bX (aJ Am (db (h9 K) (aM V1 (tC (.ty "tuple")))) (db (h9 K) (aM V0 (tC (.ty "tuple")))))) (bX (aJ Am (db (h9 K) (aM V1 (tC (.ty "list")))) (db (h9 K) (aM V0 (tC (.ty "list"))))))) (bc (tC (.bl false))) (bD))
 (aw (dw (bX (aJ Am (db (f8 K) (aK V0)) (db (f8 K) (aK V1)))) (bc (tC (.bl false))) (bD))
 (aw (fK (xy K (aM V0 V1)) (mz K 2 (ca U2 (ca U3 (mB)))) (dw (Ba (tB (bG sp (aM V2 V3)))) (bc (tC (.bl false))) (bD)))
 (bc (tC (.bl true)))))) (bJ Q) [some x,some (.ref b),none,none] H:=by
   intro t tx kt ne;refine⟨_,rfl,.ref b,"tuple",_,true,rfl,ty,rfl,_,rfl,x,"tuple",t,false,rfl,tx,kt,rfl,_,rfl,?_⟩;have:(!decide (V.bl true=V.bl false))=true:=rfl;rw[this];refine cZ (cZ ?_);rw[zzr0 ne]at g;exact g
  cases B with
  |int j=>exact no _ (.inl (gg.int j)) rfl nofun
  |str z=>exact no _ (.inl (gg.str z)) rfl nofun
  |lst q r=>exact no _ (.inr (.inr ⟨_,_,rfl,rfl,q⟩)) rfl nofun
  |@tup f xs ld D rd =>
   clear no;have v:DY K H (.ref f) (.type "tuple"):=.inr (.inl ⟨_,_,rfl,rfl,D⟩);refine⟨_,rfl,.ref b,"tuple",_,true,rfl,ty,rfl,_,rfl,.ref f,"tuple",_,true,rfl,v,rfl,rfl,_,rfl,?_⟩;rw[jn];refine cF ?_;refine⟨_,rfl,.ref b,"list",_,false,rfl,ty,rfl,_,rfl,.ref f,"list",_,false,rfl,v,rfl,rfl,_,rfl,?_⟩;rw[jn];refine cF ?_;refine⟨_,rfl,.inl ⟨f,_,rfl,.inr D,_,rfl,.inl ⟨b,_,rfl,.inr C,rfl,_,rfl,?_⟩⟩⟩;by_cases w:xs.length=ys.length;rotate_left
   ·have L:(!decide (V.int (xs.length:Nat)=V.int (ys.length:Nat)))=true:=by
     rw[zzr0 (fun z=>w (by injection z with z;omega))];rfl
    rw[L];refine cZ ?_;rw[zzr0 (fun z=>w (by rw[DIns.len rd,DIns.len re];injection z with z;rw[z]))]at g;exact g
   have L:(!decide (V.int (xs.length:Nat)=V.int (ys.length:Nat)))=false:=by
    rw[zzr1 (by rw[w])];rfl
   rw[L];refine cF ?_;obtain⟨m,rfl⟩:∃m,n=m+1:=⟨n-1,by have:=DB zd;omega⟩;obtain rfl:=O m rfl;refine⟨_,rfl,_,rfl,f,b,rfl,.inr ⟨⟨_,D⟩,⟨_,C⟩,?_⟩⟩;refine Dp (xs:=xs) (ys:=ys) w (fun i σ H'=>∃x y,σ=[some (.ref f),some (.ref b),x,y]/\af H H'/\ld.take i=U.take i)
    ⟨_,_,rfl,af.refl H,rfl⟩ (fun i σ H' _ zq=>by obtain⟨_,_,_,S,_⟩:=zq;exact⟨cj.same S D,cj.same S C⟩) ?_ ?_
   ·rintro i x y σ H' p hx hy ⟨x2,x3,rfl,S,G⟩ hp;obtain⟨Y,l,M⟩:=DIns.get rd hx;obtain⟨eu,u,N⟩:=DIns.get re hy;have I:=S.trans (af.new (o:=.tup [x,y]) hp);refine⟨p,_,rfl,cj.of aa,rfl,_,_,rfl,_,_,rfl,rfl,?_⟩;refine⟨_,rfl,_,rfl,.inl ⟨x,y,Y,eu,rfl,lH.same I M,lH.same I N,ie (AO zd) l,ie (AO ze) u,fun al A=>⟨_,rfl,?_⟩⟩⟩;by_cases c:Y=eu
    ·rw[zzr1 c];refine cF ⟨_,_,rfl,I.trans A,?_⟩;rw[take_snoc l,take_snoc u,G,c]
    ·rw[zzr0 c];refine cZ ?_;have:=k _ (I.trans A);rw[zzr0 (fun z=>c (by injection z with z;rw[z,u]at l;exact(eJ l).symm))]at this;exact this
   ·rintro σ H' ⟨x,y,rfl,S,G⟩;have:=k _ S;rw[zzr1 (by rw[DIns.len rd,bC,<-DIns.len rd,w,DIns.len re,bC]at G;rw[G])]at this;exact this
 |@lst b ys U C re =>
  have ty:DY K H (.ref b) (.type "list"):=.inr (.inr ⟨_,_,rfl,rfl,C⟩);refine pF ty rfl rfl ?_;have no:∀(t:Value),DY K H x t->gC K t (.type "tuple")=some false->gC K t (.type "list")=some false->¬d=.s U->(aw (dw (DW (bX (aJ Am (db (h9 K) (aM V1 (tC (.ty "tuple")))) (db (h9 K) (aM V0 (tC (.ty "tuple")))))) (bX (aJ Am (db (h9 K) (aM V1 (tC (.ty "list")))) (db (h9 K) (aM V0 (tC (.ty "list"))))))) (bc (tC (.bl false))) (bD))
 (aw (dw (bX (aJ Am (db (f8 K) (aK V0)) (db (f8 K) (aK V1)))) (bc (tC (.bl false))) (bD))
 (aw (fK (xy K (aM V0 V1)) (mz K 2 (ca U2 (ca U3 (mB)))) (dw (Ba (tB (bG sp (aM V2 V3)))) (bc (tC (.bl false))) (bD)))
 (bc (tC (.bl true)))))) (bJ Q) [some x,some (.ref b),none,none] H:=by
   intro t tx kt kl ne;refine⟨_,rfl,.ref b,"tuple",_,false,rfl,ty,rfl,_,rfl,x,"tuple",t,false,rfl,tx,kt,rfl,_,rfl,?_⟩;rw[jn];refine cF ?_;refine⟨_,rfl,.ref b,"list",_,true,rfl,ty,rfl,_,rfl,x,"list",t,false,rfl,tx,kl,rfl,_,rfl,?_⟩;have:(!decide (V.bl true=V.bl false))=true:=rfl;rw[this];refine cZ ?_;rw[zzr0 ne]at g;exact g
  cases B with
  |int j=>exact no _ (.inl (gg.int j)) rfl rfl nofun
  |str z=>exact no _ (.inl (gg.str z)) rfl rfl nofun
  |tup q r =>
   refine⟨_,rfl,.ref b,"tuple",_,false,rfl,ty,rfl,_,rfl,.ref _,"tuple",_,true,rfl,.inr (.inl ⟨_,_,rfl,rfl,q⟩),rfl,rfl,_,rfl,?_⟩;have:(!decide (V.bl false=V.bl true))=true:=rfl;rw[this];refine cZ (cZ ?_);rw[zzr0 nofun]at g;exact g
  |@lst f xs ld D rd =>
   clear no;have v:DY K H (.ref f) (.type "list"):=.inr (.inr ⟨_,_,rfl,rfl,D⟩);refine⟨_,rfl,.ref b,"tuple",_,false,rfl,ty,rfl,_,rfl,.ref f,"tuple",_,false,rfl,v,rfl,rfl,_,rfl,?_⟩;rw[jn];refine cF ?_;refine⟨_,rfl,.ref b,"list",_,true,rfl,ty,rfl,_,rfl,.ref f,"list",_,true,rfl,v,rfl,rfl,_,rfl,?_⟩;rw[jn];refine cF ?_;refine⟨_,rfl,.inl ⟨f,_,rfl,.inl D,_,rfl,.inl ⟨b,_,rfl,.inl C,rfl,_,rfl,?_⟩⟩⟩;by_cases w:xs.length=ys.length;rotate_left
   ·have L:(!decide (V.int (xs.length:Nat)=V.int (ys.length:Nat)))=true:=by
     rw[zzr0 (fun z=>w (by injection z with z;omega))];rfl
    rw[L];refine cZ ?_;rw[zzr0 (fun z=>w (by rw[DIns.len rd,DIns.len re];injection z with z;rw[z]))]at g;exact g
   have L:(!decide (V.int (xs.length:Nat)=V.int (ys.length:Nat)))=false:=by
    rw[zzr1 (by rw[w])];rfl
   rw[L];refine cF ?_;obtain⟨m,rfl⟩:∃m,n=m+1:=⟨n-1,by have:=DC zd;omega⟩;obtain rfl:=O m rfl;refine⟨_,rfl,_,rfl,f,b,rfl,.inl ⟨⟨_,D⟩,⟨_,C⟩,?_⟩⟩;refine Dq (xs:=xs) (ys:=ys) w (fun i σ H'=>∃x y,σ=[some (.ref f),some (.ref b),x,y]/\af H H'/\ld.take i=U.take i)
    ⟨_,_,rfl,af.refl H,rfl⟩ (fun i σ H' _ zq=>by obtain⟨_,_,_,S,_⟩:=zq;exact⟨aH.same S D,aH.same S C⟩) ?_ ?_
   ·rintro i x y σ H' p hx hy ⟨x2,x3,rfl,S,G⟩ hp;obtain⟨Y,l,M⟩:=DIns.get rd hx;obtain⟨eu,u,N⟩:=DIns.get re hy;have I:=S.trans (af.new (o:=.tup [x,y]) hp);refine⟨p,_,rfl,cj.of aa,rfl,_,_,rfl,_,_,rfl,rfl,?_⟩;refine⟨_,rfl,_,rfl,.inl ⟨x,y,Y,eu,rfl,lH.same I M,lH.same I N,ie (AQ zd) l,ie (AQ ze) u,fun al A=>⟨_,rfl,?_⟩⟩⟩;by_cases c:Y=eu
    ·rw[zzr1 c];refine cF ⟨_,_,rfl,I.trans A,?_⟩;rw[take_snoc l,take_snoc u,G,c]
    ·rw[zzr0 c];refine cZ ?_;have:=k _ (I.trans A);rw[zzr0 (fun z=>c (by injection z with z;rw[z,u]at l;exact(eJ l).symm))]at this;exact this
   ·rintro σ H' ⟨x,y,rfl,S,G⟩;have:=k _ S;rw[zzr1 (by rw[DIns.len rd,bC,<-DIns.len rd,w,DIns.len re,bC]at G;rw[G])]at this;exact this

open Classical in
def closF(rooms:Zb)(ds:List au)(gs:Zb):List Str:=rooms.filter fun r=>decide (p_ ds gs r)
open Classical in
theorem xL{rooms F a:Zb}{d:List au}(e:∀w,w∈F↔p_ d a w):rooms.filter (fun r=>decide (r∈F))=closF rooms d a:=by
 unfold closF;refine qD fun r _=>?_;by_cases c:r∈F
 ·rw[zzr1 c,zzr1 ((e r).mp c)]
 ·rw[zzr0 c,zzr0 fun z=>c ((e r).mpr z)]
def behF(rooms:Zb)(ds:List au)(J5 sg:Zb):List Str:=if sg=bU then J5.filter (fun r=>decide (r∉o8 ds))else closF rooms ds (cS ds sg J5)
theorem CI{rooms:Zb}{a:List au}{d:Zb}(e:∀r∈d,r∈rooms):(d.filter fun r=>decide (r∈rooms.filter (fe a)))=d.filter fun r=>decide (r∉o8 a):=by
 refine qD fun r f=>?_;rw[<-yH];cases q:fe a r with
 |true=>exact zzr1 (c8.mpr ⟨e r f,q⟩)
 |false=>exact zzr0 (fun z=>by rw[(c8.mp z).2]at q;cases q)
inductive qk(K:Za)(C:Addr)(vs:List V)(H:Hp)(Q:VK)(E:XK):Prop
 |mk (x t s:Addr) (J5 sg J0 J1 rooms:Zb) (ds:List au):(vs=[.ref x,.ref t,.ref s])->(bw C H x J0 J1 rooms ds)->(H t=some (.tup (J5.map V.str)))->(cj K H s (sg.map V.str))->((sg=bU∨H s=some (.tup (sg.map V.str))))->((∀r∈J5,r∈rooms))->(J5.length<=1000)->(∀(t':Addr) (H':Hp),H' t'=some (.tup ((behF rooms ds J5 sg).map V.str))->af H H'->Q (.ref t') H')->qk K C vs H Q E
theorem Ex{K:Za}{C D:Addr}(e:∀H,cj K H D (bU.map V.str)){a:List V}{H:Hp}{Q:VK}{E:XK}(h:qk K C a H Q E):
  lM K (sp_with_still C) C (je C) D (iC C) (bJ Q) (start lO a) H:=by
 obtain⟨x,t,s,m,G,I,J,rooms,n,rfl,M,u,O,v,g,T,k⟩:=h;by_cases p:G=bU;rotate_left
 ·refine vG (E:=E) e ⟨x,t,s,m,G,I,J,rooms,n,rfl,M,u,v.resolve_left p,p,T,fun w F d U Y S=>k w d ?_ S⟩;rw[U,xL Y];unfold behF;rw[if_neg p]
 subst p;refine⟨_,rfl,xB bU,xB bU,jm O,jm (e _),by rw[k9];decide,by rw[k9];decide,_,rfl,?_⟩;rw[zzr1 rfl];refine cZ ?_;refine⟨_,rfl,t,rfl,⟨_,cj.of u⟩,fun f hf=>?_⟩
 let y:Nat->List V->Hp->Prop:=fun i a d=>a=((m.take i).filter fun r=>decide (r∈rooms.filter (fe n))).map V.str/\af H d/\d f=some (.lst a)
 refine DI (xs:=m.map V.str) y ⟨rfl,af.new hf,aa⟩ (fun i a d _ zq=>by obtain⟨_,S,h'⟩:=zq;exact⟨h',cj.of (S _ _ u)⟩) ?_ ?_
 ·rintro a d ⟨rfl,S,j⟩;rw[ao,bC]at j;refine⟨f,_,rfl,.inl ⟨aH.of j,fun w z=>k w _ ?_ (S.trans (af.new z))⟩⟩;rw[aa,CI g];unfold behF;rw[if_pos rfl]
 ·rintro i a d x' A hi ⟨rfl,S,j⟩;obtain⟨r,L,rfl⟩:=cw A;have N:=M.same S;obtain⟨dx,fs,o1,o2,o3,o4,lv,qu,ab,sl,ts,al,an,ap,g1,a1,_⟩:=N.at_;refine gN ?_;refine⟨_,rfl,x,dx,fs,rfl,g1,a1,_,rfl,x,r,I,J,rooms,n,rfl,N,_,rfl,?_⟩;have l:(((m.take i).filter fun r=>decide (r∈rooms.filter (fe n))).map V.str).length<aj:=by
   rw[ao];refine av (bN (iM _ _) ?_);rw[bf];omega
  refine tD (fun B=>?_) (fun B=>?_)
  ·refine⟨_,rfl,j,l,AC hi ⟨?_,?_,aa⟩⟩
   ·rw[eK L,if_pos B,aD];rfl
   ·intro b o q;rw[ah (ae q hf)];exact S _ _ q
  ·refine AC hi ⟨?_,S,j⟩;rw[eK L,if_neg B,cp]
abbrev v_(H:Hp)(us:Ze)(L:List (List Str)):Prop:=Paired (SignAt H) us L
theorem v_.kt{H H':Hp}{a:Ze}{L:List (List Str)}(k:lg H H')(h:v_ H a L):v_ H' a L:=Paired.mapP h fun _ _ r=>k _ _ r
def cz(J0 J1:Zb):List (List Str):=J0.map aV++J1.map dD++[bU]
theorem su{K:Za}{σ:L2.St}{H:Hp}{a l:Addr}{ws:Zb}{kd:Str}{Q:Hp->Prop}(s:H a=some (.lst (ws.map V.str)))(y:ws.length<=1000)(r:H l=none)
  (k:∀(e:Ze) (d:Hp),d l=some (.lst (e.map V.ref))->v_ d e (ws.map fun w=>[kd,w])->af H d->Q d) :
  ij 1 [] σ (Fn K a) U0 oR (bW (aM (tC (.str kd)) V0)) H l Q:=by
 let j:Nat->List V->Hp->Prop:=fun i f d=>∃e:List Addr,f=e.map V.ref/\af H d/\d l=some (.lst f)/\v_ d e ((ws.take i).map fun w=>[kd,w])
 refine gX (xs:=ws.map V.str) j ⟨[],rfl,af.new r,aa,.nil⟩ (fun i f d _ t=>by obtain⟨_,_,S,m,_⟩:=t;exact⟨m,aH.of (S _ _ s)⟩) ?_ ?_
 ·rintro f d ⟨e,rfl,S,m,g⟩;rw[ao,bC]at g;exact k e d m g S
 ·rintro i f d z n hi ⟨e,rfl,S,p,g⟩;obtain⟨w,v,rfl⟩:=cw n;refine gN (xY ?_);refine⟨_,rfl,(by show 2<=aj;decide),fun u h=>⟨kp p h,?_,AC hi ⟨e++[u],by rw[aD];rfl,?_,aa,?_⟩⟩⟩
  ·rw[ao,Paired.length g,ao,bf];exact av (by omega)
  ·intro b o q;rw[ah (ae q r)];exact kp (S _ _ q) h
  ·rw[take_snoc v,aD];have x:lg d (upd (upd d u (.tup [.str kd,.str w])) l (.lst (e.map V.ref++[.ref u]))):=(af.kt (af.new h)).trans (kC (kp p h));exact iV (v_.kt x g) ((kC (kp p h)) _ _ aa)
def rH(K:Za):TS :=
 bc (db (dU K) (aK (fu K V0 "own_asks")))
def sJ:List Str:=["self"]
def rG(K:Za):TS :=
 bc (db (dU K) (aK (fu K V0 "own_says")))
def sH:List Str:=["self"]
theorem vz{C x:Addr}{H:Hp}{j k rooms:Zb}{l:List au}(h:bw C H x j k rooms l):∃(i:Addr) (fs:List (Str×V)) (e f g:Addr) (a:List (Str×Addr)),H x=some (.ins C i fs)/\lk "asks" fs=none/\lk "says" fs=none/\lk "doors_from" fs=none/\lk "is_quiet" fs=none/\lk "own_asks" fs=some (.ref e)/\lk "own_says" fs=some (.ref f)/\lk "leaving" fs=some (.ref g) /\
  H e=some (.lst (j.map V.str))/\H f=some (.lst (k.map V.str))/\a.map (·.1)=rooms/\H g=some (.dK (da Sum.inr a))/\(∀x∈a,∃m,H x.2=some (.lst (m.map V.ref))/\dv H m (bQ l x.1)):=by
 obtain⟨i,fs,e,f,D,E,g,I,J,M,N,a,o,p,n,a1,a2,a3,O,q,r,Q,T,s,U,Y,b8,L,t,u,v,c4,G,d1,d2,d3⟩:=h.at_;obtain⟨w,y,d,z,A,e3,B⟩:=h.more;rw[n]at d;cases d;exact⟨i,fs,e,f,g,a,n,z,A,B,a1,q,r,s,L.a1,L.a2,t,u,v⟩
inductive qp(C:Addr)(vs:List V)(H:Hp)(Q:VK)(E:XK):Prop
 |mk (x:Addr) (J0 J1 rooms:Zb) (ds:List au):(vs=[.ref x])->(bw C H x J0 J1 rooms ds)->(∀l,H l=none->Q (.ref l) (upd H l (.lst (J0.map V.str))))->qp C vs H Q E
theorem Ey{K:Za}{C:Addr}(M:MC K C){a:List V}{H:Hp}{Q:VK}{E:XK}(h:qp C a H Q E):rH K (bJ Q) (start sJ a) H:=by
 obtain⟨x,l,m,rooms,n,rfl,h,k⟩:=h;obtain⟨e,fs,d,o,p,f,g,a1,a2,a3,q,i,r,s,j,t,_⟩:=vz h;exact⟨_,rfl,x,C,e,fs,.ref d,rfl,g,M.cls,M.a1,i,.inl ⟨d,_,rfl,.inl (aH.of j),k⟩⟩
inductive qg(C:Addr)(vs:List V)(H:Hp)(Q:VK)(E:XK):Prop
 |mk (x:Addr) (J0 J1 rooms:Zb) (ds:List au):(vs=[.ref x])->(bw C H x J0 J1 rooms ds)->(∀l,H l=none->Q (.ref l) (upd H l (.lst (J1.map V.str))))->qg C vs H Q E
theorem Et{K:Za}{C:Addr}(M:MC K C){a:List V}{H:Hp}{Q:VK}{E:XK}(h:qg C a H Q E):rG K (bJ Q) (start sH a) H:=by
 obtain⟨x,l,m,rooms,n,rfl,h,k⟩:=h;obtain⟨e,fs,o,d,p,f,g,a1,a2,a3,q,r,i,s,t,j,_⟩:=vz h;exact⟨_,rfl,x,C,e,fs,.ref d,rfl,g,M.cls,M.a2,i,.inl ⟨d,_,rfl,.inl (aH.of j),k⟩⟩
abbrev Sg:=List Str
def stepsF(J0 J1 rooms:Zb)(ds:List au)(J5:Zb):List (Sg×List Str):=((cz J0 J1).map fun sg=>(sg,behF rooms ds J5 sg)).filter fun p=>decide (p.2≠[])
structure gh where
 fs:List (List Str)
 ss:List (List Sg)
def gh.add(m:gh)(f:Zb)(s:List Sg):gh:=if f∈m.fs then m else⟨m.fs++[f],m.ss++[s]⟩
def AD(s:List Sg)(q:gh×List (Sg×Nat))(p:Sg×List Str):gh×List (Sg×Nat):=(q.1.add p.2 (s++[p.1]),q.2++[(p.1,(q.1.add p.2 (s++[p.1])).fs.idxOf p.2)])
def cY(s:List Sg)(m:gh)(L:List (Sg×List Str)):gh×List (Sg×Nat):=L.foldl (AD s) (m,[])
abbrev wj:=gh×List (List (Sg×Nat))
def initF(rooms:Zb)(ds:List au):wj:=((⟨[],[]⟩:gh).add (closF rooms ds (rooms.take 1)) [],[])
def nextF(J0 J1 rooms:Zb)(ds:List au)(S:wj):wj :=
 ((cY (S.1.ss.getD S.2.length []) S.1 (stepsF J0 J1 rooms ds (S.1.fs.getD S.2.length []))).1,S.2++[(cY (S.1.ss.getD S.2.length []) S.1 (stepsF J0 J1 rooms ds (S.1.fs.getD S.2.length []))).2])
def itF(J0 J1 rooms:Zb)(ds:List au):Nat->wj
 |0=>initF rooms ds
 |k+1=>nextF J0 J1 rooms ds (itF J0 J1 rooms ds k)
theorem jj{α:Type}[DecidableEq α]:∀{L R:List α},L.Nodup->(∀y∈L,y∈R)->L.length<=R.length
 |[],_,_,_=>dY _
 |x::L,R,h,a=>by
  rw[dC]at h;have hx:x∈R:=a x b_;have f:∀y∈L,y∈R.erase x:=fun y d=>(List.mem_erase_of_ne (fun e=>h.1 (by rw[<-e];exact d))).2 (a y (cO _ d));have g:=jj h.2 f;rw[List.length_erase_of_mem hx]at g;have i:0<R.length:=List.length_pos_of_mem hx;rw[dj];omega
def pk(rooms f:Zb):Prop:=∃p:Str->Bool,f=rooms.filter p
theorem EY{rooms f a:Zb}{d:List au}(h:pk rooms f):pk rooms (behF rooms d f a):=by
 classical
 unfold behF;split
 ·obtain⟨p,rfl⟩:=h;rw[List.filter_filter];exact⟨_,rfl⟩
 ·unfold closF;exact⟨_,rfl⟩
theorem BD{rooms:Zb}{a:List au}{d:Zb}:pk rooms (closF rooms a d):=by
 classical
 unfold closF;exact⟨_,rfl⟩
theorem pk.sub{rooms f:Zb}(h:pk rooms f):∀r∈f,r∈rooms:=by
 obtain⟨p,rfl⟩:=h;exact fun r a=>(c8.1 a).1
theorem pk.len{rooms f:Zb}(h:pk rooms f):f.length<=rooms.length:=by
 obtain⟨p,rfl⟩:=h;exact iM _ _
structure Good(rooms:Zb)(m:gh):Prop where
 nd:m.fs.Nodup
 len:m.ss.length=m.fs.length
 isF:∀f∈m.fs,pk rooms f
 sl:∀(i:Nat) (s:List Sg),m.ss[i]?=some s->s.length<=i
theorem gh.add_in{m:gh}{f:Zb}{s:List Sg}(h:f∈m.fs):m.add f s=m:=if_pos h
theorem gh.add_new{m:gh}{f:Zb}{s:List Sg}(h:¬f∈m.fs):m.add f s=⟨m.fs++[f],m.ss++[s]⟩:=if_neg h
theorem Good.add{rooms f:Zb}{m:gh}{s:List Sg}(g:Good rooms m)(h:pk rooms f)(k:s.length<=m.fs.length):Good rooms (m.add f s):=by
 by_cases c:f∈m.fs
 ·rw[gh.add_in c];exact g
 ·rw[gh.add_new c];refine⟨?_,?_,?_,?_⟩;rotate_left 3
  ·intro i a e
   change (m.ss++[s])[i]?=some a at e
   rcases lS i m.ss.length with z|z
   ·rw[oI z]at e;exact g.sl i a e
   ·rw[oJ z]at e;have d:i-m.ss.length=0:=by
     rcases qJ (i-m.ss.length)with q|q
     ·exact q
     ·rw[fD (by show 1<=_;omega)]at e;cases e
    rw[d]at e;injection e with e;rw[<-e];have:=g.len;omega
  ·rw[cD];exact⟨g.nd,by simp,fun x hx y j e=>c (by rw[eT.1 j]at e;rw[<-e];exact hx)⟩
  ·show(m.ss++[s]).length=(m.fs++[f]).length;rw[aL,aL,g.len];rfl
  ·intro x hx;rcases bM.1 hx with hx|hx
   ·exact g.isF x hx
   ·rw[eT.1 hx];exact h
theorem Ff{m:gh}{f:Zb}{s:List Sg}:f∈(m.add f s).fs:=by
 by_cases c:f∈m.fs
 ·rw[gh.add_in c];exact c
 ·rw[gh.add_new c];simp
def n_(m m':gh):Prop:=(∃r,m'.fs=m.fs++r)/\∃r,m'.ss=m.ss++r
theorem n_.refl(m:gh):n_ m m:=⟨⟨[],(cp _).symm⟩,⟨[],(cp _).symm⟩⟩
theorem n_.trans{a b c:gh}(h:n_ a b)(k:n_ b c):n_ a c:=by
 obtain⟨⟨r,e⟩,⟨s,f⟩⟩:=h;obtain⟨⟨d,g⟩,⟨i,j⟩⟩:=k;exact⟨⟨r++d,by rw[g,e,g6]⟩,⟨s++i,by rw[j,f,g6]⟩⟩
theorem xA{m:gh}{f:Zb}{s:List Sg}:n_ m (m.add f s):=by
 by_cases c:f∈m.fs
 ·rw[gh.add_in c];exact .refl _
 ·rw[gh.add_new c];exact⟨⟨[f],rfl⟩,⟨[s],rfl⟩⟩
theorem gV(s:List Sg)(m:gh)(L:List (Sg×List Str))(p:Sg×List Str):cY s m (L++[p])=AD s (cY s m L) p:=by
 unfold cY;rw[qE];rfl
theorem n_.at{m a:gh}(h:n_ m a){i:Nat}{f:Zb}(e:m.fs[i]?=some f):a.fs[i]?=some f:=by
 obtain⟨⟨r,q⟩,_⟩:=h;rw[q,oI (by rcases lS i m.fs.length with z|z;exact z;rw[fD z]at e;cases e),e]
theorem uk{rooms:Zb}{s:List Sg}{m:gh}(g:Good rooms m)(t:s.length<m.fs.length)(L:List (Sg×List Str))(h:∀p∈L,pk rooms p.2):
  Good rooms (cY s m L).1/\n_ m (cY s m L).1/\Paired (fun(a:Sg×Nat) (p:Sg×List Str)=>a.1=p.1/\(cY s m L).1.fs[a.2]?=some p.2) (cY s m L).2 L:=by
 have d:∀n,n<=L.length->Good rooms (cY s m (L.take n)).1/\n_ m (cY s m (L.take n)).1/\Paired (fun(a:Sg×Nat) (p:Sg×List Str)=>a.1=p.1/\(cY s m (L.take n)).1.fs[a.2]?=some p.2) (cY s m (L.take n)).2 (L.take n):=by
  intro n
  induction n with
  |zero=>intro _;exact⟨g,.refl _,.nil⟩
  |succ n i =>
   intro u;obtain⟨j,e,k⟩:=i (by omega);have l:L[n]?=some L[n]:=bZ (by omega);rw[take_snoc l,gV];have hf:=h L[n] (og _);have v:m.fs.length<=(cY s m (L.take n)).1.fs.length:=by
    obtain⟨⟨r,q⟩,_⟩:=e;rw[q,aL];omega
   refine⟨j.add hf (by rw[aL];show _+1<=_;omega),e.trans xA,?_⟩;refine iV (Paired.mapP k fun a p r=>⟨r.1,xA.at r.2⟩) ⟨rfl,?_⟩;show(gh.add _ _ _).fs[(gh.add _ _ _).fs.idxOf L[n].2]?=some L[n].2;have o:=Ff (m:=(cY s m (L.take n)).1) (f:=L[n].2) (s:=s++[L[n].1]);have hi:=List.idxOf_lt_length_of_mem o;rw[bZ hi,List.getElem_idxOf]
 have:=d L.length (az _);rw[bC]at this;exact this
structure xS(J0 J1 rooms:Zb)(ds:List au)(S:wj):Prop where
 good:Good rooms S.1
 le:S.2.length<=S.1.fs.length
 zero:S.1.fs[0]?=some (closF rooms ds (rooms.take 1))
 st:∀(i:Nat) (l:List (Sg×Nat)),S.2[i]?=some l->∃f,S.1.fs[i]?=some f/\Paired (fun(a:Sg×Nat) (p:Sg×List Str)=>a.1=p.1/\S.1.fs[a.2]?=some p.2) l (stepsF J0 J1 rooms ds f)
theorem rO{J0 a rooms f:Zb}{d:List au}(h:pk rooms f):∀p∈stepsF J0 a rooms d f,pk rooms p.2:=by
 intro p e;obtain⟨g,_,rfl⟩:=ay.1 (c8.1 e).1;exact EY h
theorem BI{d g rooms:Zb}{a:List au}:xS d g rooms a (initF rooms a):=by
 have e:(⟨[],[]⟩:gh).add (closF rooms a (rooms.take 1)) []=⟨[closF rooms a (rooms.take 1)],[[]]⟩:=gh.add_new (by simp);refine⟨?_,dY _,?_,fun i l h=>?_⟩
 ·exact Good.add (m:=⟨[],[]⟩) ⟨oF,rfl,(fun f hf=>nomatch hf),(fun i s (e:([]:List (List Sg))[i]?=some s)=>by rw[List.getElem?_nil]at e;cases e)⟩ BD (dY _)
 ·show((⟨[],[]⟩:gh).add _ _).fs[0]?=_;rw[e];rfl
 ·simp[initF]at h
theorem BH{m n rooms:Zb}{o:List au}{S:wj}(h:xS m n rooms o S)(lt:S.2.length<S.1.fs.length):xS m n rooms o (nextF m n rooms o S):=by
 have v:S.1.fs[S.2.length]?=some S.1.fs[S.2.length]:=by simp[lt]
 have w:S.1.fs.getD S.2.length []=S.1.fs[S.2.length]:=by simp[lt]
 have x:=h.good.isF S.1.fs[S.2.length] (og _);obtain⟨g,j,u⟩:=uk (s:=S.1.ss.getD S.2.length []) h.good (by
  have t:S.2.length<S.1.ss.length:=by rw[h.good.len];exact lt
  have e:S.1.ss[S.2.length]?=some (S.1.ss[S.2.length]'(t)):=bZ t;have:=h.good.sl _ _ e;rw[ez,e];show(S.1.ss[S.2.length]'(t)).length<_;omega) (stepsF m n rooms o S.1.fs[S.2.length]) (rO x)
 unfold nextF;rw[w];generalize cY (S.1.ss.getD S.2.length []) S.1 (stepsF m n rooms o S.1.fs[S.2.length])=q at g j u;refine⟨g,?_,j.at h.zero,fun i l d=>?_⟩
 ·obtain⟨⟨r,e⟩,_⟩:=j;show(S.2++[q.2]).length<=q.1.fs.length;rw[e,aL,aL];show S.2.length+1<=_;omega
 ·change (S.2++[q.2])[i]?=some l at d
  rcases Nat.lt_trichotomy i S.2.length with c|c|c
  ·rw[oI c]at d;obtain⟨f,e,p⟩:=h.st i l d;exact⟨f,j.at e,Paired.mapP p fun a p r=>⟨r.1,j.at r.2⟩⟩
  ·subst c;rw[oJ (az _),Nat.sub_self]at d;injection d with d;subst d;exact⟨S.1.fs[S.2.length],j.at v,u⟩
  ·rw[oJ (dB c)]at d;obtain⟨k,y⟩:=Nat.exists_eq_succ_of_ne_zero (show i-S.2.length≠0 by omega);rw[y]at d;cases d
def oO(K:Za)(C_Machine:Addr)(sp_Machine_asks:Sp)(sp_Machine_says:Sp)(a_HUSH:Addr):TS :=
 bc (aJ yG (aJ yG (gF 1 [] (gf K (fZ C_Machine "asks" sp_Machine_asks [] E0 V0 cv)) U0 (oR) (bW (aM (tC (.str "ask")) V0))) (gF 1 [] (gf K (fZ C_Machine "says" sp_Machine_says [] E0 V0 cv)) U0 (oR) (bW (aM (tC (.str "say")) V0)))) (eL (aK (tC (.ref a_HUSH)))))
def pe:List Str:=["M"]
def ye(K:Za)(sp_signs_in_order:Sp)(sp_face_behind:Sp):TS :=
 aw (a_ (oW) U2)
 (aw (fK (gf K (bG sp_signs_in_order (aK V0))) U3 (aw (a_ (bG sp_face_behind (dR V0 V1 V3)) U4)
 (dw (bX (aJ CH (db (f8 K) (aK V4)) (tC (.int 0)))) (vD K V2 V3 V4) (bD))))
 (bc V2))
def zC:List Str:=["M","face","steps","sign","behind"]
def lG:List Str:=["self","face","story"]
def i0:List Str:=["self","number","steps","sign","face"]
def mM:List Str:=["self","M"]
def kb(K:Za):TS :=
 aw (a_ (oX) U2)
 (aw (fK (AL V1) (mz K 2 (ca U3 (ca U4 (mB)))) (fK (Dh K (aJ (cR K) V0 V3)) U5 (kj V2 V5 (aJ bP (oY K V2 V5 (tC (.int 0))) V4))))
 (bc V2))
def kI:List Str:=["steps","counts","longer","number","count","goal"]
def zI:List Str:=["M","n","steps","counts","turn"]
def Fi(hu:Addr)(H:Hp)(u:Addr)(sg:Zb):Prop:=H u=some (.tup (sg.map V.str))∨(u=hu/\sg=bU)
theorem Fi.same{a:Addr}{H d:Hp}{u:Addr}{e:Zb}(h:Fi a H u e)(S:af H d):Fi a d u e:=h.imp (S _ _) id
theorem Eg{K:Za}{a:Addr}{xs:List V}(h:∀H,cj K H a xs)(H:Hp):jH K H a xs:=by
 rcases h (fun _=>none)with(h|⟨o,h⟩)|h
 ·cases h
 ·cases h
 ·exact .inr h
section
variable{K:Za}{hu:Addr}(hh:∀H,cj K H hu (bU.map V.str))
include hh
theorem Fi.tup{H:Hp}{u:Addr}{a:Zb}(h:Fi hu H u a):jH K H u (a.map V.str):=by
 rcases h with h|⟨rfl,rfl⟩
 ·exact .inl h
 ·exact Eg hh H
theorem Fi.sq{H:Hp}{u:Addr}{a:Zb}(h:Fi hu H u a):cj K H u (a.map V.str):=by
 rcases h with h|⟨rfl,rfl⟩
 ·exact cj.of h
 ·exact hh H
end
inductive vv(C hu:Addr)(vs:List V)(H:Hp)(Q:VK)(E:XK):Prop
 |mk (x:Addr) (J0 J1 rooms:Zb) (ds:List au):(vs=[.ref x])->(bw C H x J0 J1 rooms ds)->(∀(l:Addr) (us:Ze) (H':Hp),H' l=some (.lst (us.map V.ref))->Paired (Fi hu H') us (cz J0 J1)->af H H'->Q (.ref l) H')->vv C hu vs H Q E
theorem Gg{K:Za}{C f:Addr}{B:List V}{H:Hp}{Q:VK}{E:XK}(h:vv C f B H Q E):oO K C (qp C) (qg C) f (bJ Q) (start pe B) H:=by
 obtain⟨x,j,l,rooms,D,rfl,M,k⟩:=h;have z1:=M.ok.asks4;have z2:=M.ok.says4;obtain⟨m,fs,T,U,Y,n,p,a1,a2,_⟩:=vz M;refine⟨_,rfl,x,m,fs,rfl,p,a1,x,j,l,rooms,D,rfl,M,fun G q=>⟨G,rfl,⟨_,aH.of aa⟩,fun la s=>?_⟩⟩;have I:af H (upd H G (.lst (j.map V.str))):=af.new q;refine su (kd:="ask") (ws:=j) aa (by omega) s fun t J h1 a L=>?_;have N:=M.same (I.trans L);obtain⟨m,fs,T,U,Y,n,p,a1,a2,_⟩:=vz N;refine⟨_,rfl,x,m,fs,rfl,p,a2,x,j,l,rooms,D,rfl,N,fun O u=>⟨O,rfl,⟨_,aH.of aa⟩,fun ls v=>?_⟩⟩;have S2:af J (upd J O (.lst (l.map V.str))):=af.new u;refine su (kd:="say") (ws:=l) aa (by omega) v fun w H2 h2 d S3=>?_;have e:=S2.trans S3;have y:=e _ _ h1;have g:=v_.kt (af.kt e) a;refine⟨la,ls,_,_,rfl,rfl,y,h2,?_,fun c1 z=>?_⟩
 ·rw[ao,ao,Paired.length a,Paired.length d,ao,ao];exact dB (av (by omega))
 refine⟨(by show 1<=aj;decide),fun hl i=>?_⟩;refine⟨c1,hl,_,_,rfl,rfl,kp aa i,aa,?_,fun r hr=>?_⟩
 ·rw[aL,ao,ao,Paired.length a,Paired.length d,ao,ao];exact dB (av (by show _+1<=1000;omega))
 have A:=((af.new (o:=.lst (t.map V.ref++w.map V.ref)) z).trans (af.new (o:=.lst [.ref f]) i)).trans (af.new (o:=.lst (t.map V.ref++w.map V.ref++[.ref f])) hr);refine k r (t++w++[f]) _ ?_ ?_ (((I.trans L).trans e).trans A)
 ·rw[aa,aD,aD];rfl
 ·exact Paired.app (Paired.app (Paired.mapP (v_.kt (af.kt A) g) fun _ _ r=>.inl r) (Paired.mapP (v_.kt (af.kt A) d) fun _ _ r=>.inl r)) (.cons (.inr ⟨rfl,rfl⟩) .nil)
theorem kB{g i rooms:Zb}{k:List au}(m:fm g i rooms k):(cz g i).Nodup:=by
 unfold cz;have n:∀a b:Str,aV a=aV b->a=b:=fun a b h=>by unfold aV at h;injection h with _ h;injection h
 have o:∀a b:Str,dD a=dD b->a=b:=fun a b h=>by unfold dD at h;injection h with _ h;injection h
 have j:∀{f:Str->List Str}{l:Zb},(∀a b,f a=f b->a=b)->l.Nodup->(l.map f).Nodup:=by
  intro f l hf p;rw[jY,uK];exact(jY.1 p).imp fun h e=>h (hf _ _ e)
 rw[cD,cD];refine⟨⟨j n m.okA.1,j o m.okS.1,?_⟩,by simp,?_⟩
 ·intro x hx y d e;obtain⟨a,_,rfl⟩:=ay.1 hx;obtain⟨b,_,rfl⟩:=ay.1 d;unfold aV dD at e;injection e with e _;exact absurd e (by decide)
 ·intro x hx y d e;rw[eT.1 d]at e;rcases bM.1 hx with hx|hx
  ·obtain⟨a,_,rfl⟩:=ay.1 hx;unfold aV bU at e;injection e with _ e;cases e
  ·obtain⟨a,_,rfl⟩:=ay.1 hx;unfold dD bU at e;injection e with _ e;cases e
abbrev zv(H:Hp)(kvs:List (TK×V))(L:List (Sg×List Str)):Prop:=Paired (fun(kv:TK×V) (p:Sg×List Str)=>kv.1=lD p.1/\∃u,kv.2=.ref u/\H u=some (.tup (p.2.map V.str))) kvs L
theorem z_{κ:Type}[DecidableEq κ]{a:List (κ×V)}{k:κ}(h:∀d∈a,d.1≠k):bL a k=none:=by
 unfold bL;rw[List.find?_eq_none.2 fun d e=>by simpa using h d e]
 rfl
theorem fO(d:Zb):(lD d).depth<=8:=by
 have:∀l:List Str,TK.depths (l.map oZ)=0:=by
  intro l
  induction l with
  |nil=>rfl
  |cons a l e=>show max (TK.depth (oZ a)) (TK.depths _)=0;rw[e];rfl
 show TK.depths (d.map oZ)+1<=8;rw[this];decide
def stG(rooms:Zb)(ds:List au)(J5:Zb)(L:List (List Str)):List (Sg×List Str):=(L.map fun sg=>(sg,behF rooms ds J5 sg)).filter fun p=>decide (p.2≠[])
theorem wQ(rooms:Zb)(a:List au)(d:Zb)(L:List (List Str))(e:Zb):stG rooms a d (L++[e])=stG rooms a d L++if behF rooms a d e=[]then[]else[(e,behF rooms a d e)]:=by
 unfold stG;rw[aD,uI];congr 1;by_cases c:behF rooms a d e=[]
 ·rw[if_pos c];simp[c]
 ·rw[if_neg c];simp[c]
theorem Eo{rooms:Zb}{a:List au}{d:Zb}{L:List (List Str)}{p:Sg×List Str}(h:p∈stG rooms a d L):p.1∈L:=by
 obtain⟨f,e,rfl⟩:=ay.1 (c8.1 h).1;exact e
theorem Ah{rooms:Zb}{ds:List au}{J5:Zb}{L:List (List Str)}:(stG rooms ds J5 L).length<=L.length:=by
 unfold stG;exact bN (iM _ _) (by rw[ao];exact az _)
theorem zv.kt{H H':Hp}{a:List (TK×V)}{L:List (Sg×List Str)}(k:lg H H')(h:zv H a L):zv H' a L:=Paired.mapP h fun _ _ ⟨e,u,d,r⟩=>⟨e,u,d,k _ _ r⟩
theorem zv.no{H:Hp}{d:List (TK×V)}{L:List (Sg×List Str)}(h:zv H d L){f:Sg}(n:∀p∈L,p.1≠f):bL d (lD f)=none:=by
 refine z_ ?_
 induction h with
 |nil=>intro g hk;exact nomatch hk
 |@cons a b k bs r t i =>
  intro g hk;rcases bA.1 hk with rfl|hk
  ·rw[r.1];exact fun e=>n b b_ (nQ e)
  ·exact i (fun p j=>n p (cO _ j)) g hk
theorem nK{α:Type}{L:List α}(d:L.Nodup){i:Nat}{x:α}(e:L[i]?=some x):¬x∈L.take i:=by
 intro h;obtain⟨j,f,a⟩:=List.getElem_of_mem h;rw[bf]at f;have hi:i<L.length:=by rcases lS i L.length with z|z;exact z;rw[fD z]at e;cases e
 rw[List.getElem_take]at a;rw[bZ hi]at e;injection e with e;exact List.pairwise_iff_getElem.1 (jY.1 d) j i (by omega) hi (by omega) (a.trans e.symm)
theorem Hq{H:Hp}{d:Addr}{a:List (TK×V)}{o:HO}(h:H d=some (.dT a)):lg H (upd H d o):=fun b xs e=>by rw[ah (fun z=>by rw[z,h]at e;cases e)];exact e
theorem GB{b:Bool}{P X Y:Prop}(h:b=true↔P)(a:P->X)(d:¬P->Y):if b=true then X else Y:=by
 cases b with
 |true=>exact a (h.1 rfl)
 |false=>exact d fun z=>by cases h.2 z
inductive jy(C:Addr)(vs:List V)(H:Hp)(Q:VK)(E:XK):Prop
 |mk (x t:Addr) (J5 J0 J1 rooms:Zb) (ds:List au):(vs=[.ref x,.ref t])->(bw C H x J0 J1 rooms ds)->(H t=some (.tup (J5.map V.str)))->((∀r∈J5,r∈rooms))->(J5.length<=1000)->(∀(d:Addr) (kvs:List (TK×V)) (H':Hp),H' d=some (.dT kvs)->zv H' kvs (stepsF J0 J1 rooms ds J5)->H d=none->af H H'->Q (.ref d) H')->jy C vs H Q E
theorem yz{K:Za}{C U:Addr}(hh:∀H,cj K H U (bU.map V.str)){vs:List V}{H:Hp}{Q:VK}{E:XK}(h:jy C vs H Q E):ye K (vv C U) (qk K C) (bJ Q) (start zC vs) H:=by
 obtain⟨x,t,N,w,A,rooms,ds,rfl,M,ht,B,hz,k⟩:=h;have z1:=M.ok.asks4;have z2:=M.ok.says4;have zl:(cz w A).length<=9:=by unfold cz;rw[aL,aL,ao,ao];show _+1<=9;omega
 have nd:=kB M.ok;refine fun d Y=>?_;have S0:af H (upd H d (.dT [])):=af.new Y;refine⟨_,rfl,x,w,A,rooms,ds,rfl,M.same S0,fun l us H1 hl hP O=>⟨l,rfl,⟨_,aH.of hl⟩,?_⟩⟩
 let ab:Nat->L2.St->Hp->Prop:=fun i σ D=>GZ fun(g:List (TK×V)) (x3 x4:Option V)=>G0 (σ=[some (.ref x),some (.ref t),some (.ref d),x3,x4]) (D d=some (.dT g)) (af H D) ((∀b o,H1 b=some o->b≠d->D b=some o)) (zv D g (stG rooms ds N ((cz w A).take i)))
 refine fk (xs:=us.map V.ref) ab
  ⟨[],_,_,rfl,O _ _ aa,S0.trans O,fun _ _ e _=>e,.nil⟩ (fun i σ D _ ⟨_,_,_,_,_,_,S,_⟩=>aH.of (S _ _ hl fun e=>by subst e;have:=O _ _ (aa (H:=H) (a:=l) (o:=.dT []));rw[hl]at this;cases this)) ?_ ?_
 ·rintro i y σ H2 hi ⟨g,x3,x4,rfl,h2,s,G,st⟩;obtain⟨u,al,rfl⟩:=kn hi;obtain⟨m,q,an⟩:=Paired.getL hP al;have j:Fi U H2 u m:=an.imp (fun e=>G _ _ e fun z=>by subst z;have:=O _ _ (aa (H:=H) (a:=u) (o:=.dT []));rw[e]at this;cases this) id;refine⟨_,rfl,_,rfl,_,rfl,x,t,u,N,m,w,A,rooms,ds,rfl,M.same s,s _ _ ht,j.sq hh,j.symm.imp (fun e=>e.2) id,B,hz,fun f H3 hf v=>?_⟩;have h3:=v _ _ h2;refine⟨_,rfl,.inl ⟨f,_,rfl,.inr (cj.of hf),_,_,rfl,rfl,?_⟩⟩;refine⟨_,rfl,?_⟩;have I:=j.same v;have J:∀b o,H1 b=some o->b≠d->H3 b=some o:=fun b o e n=>v _ _ (G b o e n);have r:=st.kt (af.kt v);refine GB (P:=behF rooms ds N m≠[]) ?_ (fun c=>?_) (fun c=>?_)
  ·rw[ao];constructor
   ·intro h z;rw[z]at h;exact absurd h (by decide)
   ·intro h;exact zzr1 (by have:=List.length_pos_iff.mpr h;omega)
  rotate_left
  ·have c:=Classical.not_not.1 c;refine⟨g,_,_,rfl,h3,s.trans v,J,?_⟩;rw[take_snoc q,wQ,if_pos c,cp];exact r
  ·have no:bL g (lD m)=none:=r.no fun p hp e=>by
    have T:=Eo hp;rw[e]at T;exact nK nd q T
   have ll:g.length<aj:=by
    rw[Paired.length st];refine av ?_;have T:=Ah (rooms:=rooms) (ds:=ds) (J5:=N) (L:=(cz w A).take i);rw[bf]at T;omega
   refine⟨_,rfl,_,rfl,_,rfl,d,u,g,lD m,rfl,rfl,h3,wA (I.tup hh),fO m,ll,_,_,_,rfl,aa,?_,?_,?_⟩
   ·intro b o e;rw[ah (ae e Y)];exact v _ _ (s _ _ e)
   ·intro b o e n;rw[ah n];exact J b o e n
   ·rw[jg _ no,take_snoc q,wQ,if_neg c];have kt:lg H3 (upd H3 d (.dT (g++[(lD m,.ref f)]))):=Hq h3;exact iV (r.kt kt) ⟨rfl,f,rfl,kt _ _ hf⟩
 ·rintro σ H2 ⟨g,x3,x4,rfl,h2,s,_,st⟩;rw[ao,Paired.length hP,bC]at st;exact⟨_,rfl,k d g H2 h2 st Y s⟩
def nH:Nat->List (List Str)->List (TK×V)
 |_,[]=>[]
 |n,f::r=>(lD f,.int (n:Nat))::nH (n+1) r
theorem um(f:Zb):∀(fs:List (List Str)) (n:Nat),nH n (fs++[f])=nH n fs++[(lD f,.int ((n+fs.length:Nat)))]
 |[],n=>rfl
 |x::r,n=>by
  show _::nH (n+1) (r++[f])=_::(nH (n+1) r++_);rw[um f r (n+1),dj,show n+1+r.length=n+(r.length+1) by omega]
theorem w6:∀(fs:List (List Str)) (n:Nat),(nH n fs).length=fs.length
 |[],n=>rfl
 |x::r,n=>by show _+1=_+1;rw[w6 r (n+1)]
theorem kz(f:Zb):∀(fs:List (List Str)) (n:Nat),bL (nH n fs) (lD f)=if f∈fs then some (.int ((n+fs.idxOf f:Nat)))else none
 |[],n=>rfl
 |x::r,n=>by
  by_cases c:x=f
  ·subst c;rw[if_pos b_];show bL ((lD x,_)::_) _=_;rw[cu rfl];rw[List.idxOf_cons_self];rfl
  ·show bL ((lD x,_)::_) _=_;rw[cc (fun e=>c (nQ e)),kz f r (n+1)];by_cases d:f∈r
   ·rw[if_pos d,if_pos (cO _ d)];have e:(x::r).idxOf f=r.idxOf f+1:=by rw[List.idxOf_cons,show(x==f)=false from beq_false_of_ne c];rfl
    rw[e,show n+1+r.idxOf f=n+(r.idxOf f+1) by omega]
   ·rw[if_neg d,if_neg (by simp[br c,d])]
abbrev iI(K:Za)(H:Hp)(w:Addr)(s:List Sg):Prop:=∃gs:List Addr,H w=some (.lst (gs.map V.ref))/\Paired (fun g (sg:Sg)=>jH K H g (sg.map V.str)) gs s
structure FC(K:Za)(C:Addr):Prop where
 cls:xV K C
 a1:cG K C "machine"
 a2:cG K C "faces"
 a3:cG K C "first_stories"
 a4:cG K C "numbers"
 a5:cG K C "steps"
def HH(C:Addr)(H:Hp)(x M fa sa na ta:Addr):Prop:=∃(dx:Addr) (fs:List (Str×V)),H x=some (.ins C dx fs)/\lk "machine" fs=some (.ref M)/\lk "faces" fs=some (.ref fa)/\lk "first_stories" fs=some (.ref sa)/\lk "numbers" fs=some (.ref na)/\lk "steps" fs=some (.ref ta)/\lk "number_at" fs=none/\lk "numbered_steps" fs=none
structure i5(K:Za)(C:Addr)(H:Hp)(x M fa sa na ta:Addr)(us ws:Ze)(m:gh):Prop where
 ob:HH C H x M fa sa na ta
 hfa:H fa=some (.lst (us.map V.ref))
 faces:Paired (fun u (f:Zb)=>H u=some (.tup (f.map V.str))) us m.fs
 hsa:H sa=some (.lst (ws.map V.ref))
 stories:Paired (fun w s=>(w≠fa/\w≠sa/\w≠ta)/\iI K H w s) ws m.ss
 hna:H na=some (.dT (nH 0 m.fs))
 ne:fa≠sa/\fa≠ta/\sa≠ta
theorem jH.kt{K:Za}{H d:Hp}{a:Addr}{xs:List V}(k:lg H d)(h:jH K H a xs):jH K d a xs:=h.keeps k
theorem iI.kt{K:Za}{H a:Hp}{w:Addr}{s:List Sg}(k:lg H a)(e:∀o,H w=some o->a w=some o)(h:iI K H w s):iI K a w s:=by
 obtain⟨d,f,g⟩:=h;exact⟨d,e _ f,Paired.mapP g fun _ _ r=>jH.kt k r⟩
def GR(fa sa na:Addr)(H H':Hp):Prop:=∀b o,H b=some o->b≠fa->b≠sa->b≠na->H' b=some o
theorem GR.refl(a d f:Addr)(H:Hp):GR a d f H H:=fun _ _ e _ _ _=>e
theorem i5.same{K:Za}{C x M fa a d f:Addr}{i j:Ze}{m:gh}{H k:Hp}(h:i5 K C H x M fa a d f i j m)(S:af H k):i5 K C k x M fa a d f i j m:=by
 obtain⟨⟨l,fs,g,r⟩,n,p,q,s,t,u⟩:=h;exact⟨⟨l,fs,S _ _ g,r⟩,S _ _ n,Paired.mapP p fun _ _ r=>S _ _ r,S _ _ q,Paired.mapP s fun _ _ r=>⟨r.1,r.2.kt (af.kt S) fun o e=>S _ _ e⟩,S _ _ t,u⟩
theorem i5.move{K:Za}{C x M fa p e q:Addr}{t u:Ze}{m:gh}{H:Hp}{d:Addr}{o:HO}{f:List (TK×V)}(h:i5 K C H x M fa p e q t u m)(a:H d=some (.dT f))(n:d≠e):i5 K C (upd H d o) x M fa p e q t u m:=by
 have k:lg H (upd H d o):=Hq a;obtain⟨⟨v,fs,g,r⟩,i,y,j,A,B,D⟩:=h;refine⟨⟨v,fs,by rw[ah (fun z=>by rw[z,a]at g;cases g)];exact g,r⟩,by rw[ah (fun z=>by rw[z,a]at i;cases i)];exact i,Paired.mapP y fun _ _ r=>k _ _ r,by rw[ah (fun z=>by rw[z,a]at j;cases j)];exact j,Paired.mapP A fun w s r=>⟨r.1,?_⟩,by rw[ah n.symm];exact B,D⟩;obtain⟨E,l,G⟩:=r.2;exact⟨E,by rw[ah (fun z=>by rw[z,a]at l;cases l)];exact l,Paired.mapP G fun _ _ r=>jH.kt k r⟩
theorem uv{d:Addr}{o:Obj}{u:HO}{n:Nat}{f:Nat->Hp->V->V->Prop}{g:TG}{k:TS}{D:eD}{σ:L2.St}{H:Hp}(Pv:Nat->L2.St->Hp->Prop)(r:Pv 0 σ H)(s:∀i σ H,i<=n->Pv i σ H->H d=some (.frz o u))
  (v:∀i σ H p a b,i<n->Pv i σ H->H p=none->f i H a b->g (.ref p) σ (upd H p (.tup [a,b])) fun σ2 j=>k { D with nx:=Pv (i+1),ct:=Pv (i+1),bk:=D.nx } σ2 j) (w:∀σ H,Pv n σ H->D.nx σ H) :
  ∃W:Nat->Nat->L2.St->Hp->Prop,(∃m,W 0 m σ H)/\∀i m σ H,W i m σ H ->
   ((Fo d o u n f).stop i H/\D.nx σ H)∨((Fo d o u n f).go i H/\∃N:L2.St->Hp->Prop,(∀σ' h,N σ' h->∃l,l<m/\W (i+1) l σ' h)/\∀x h,(Fo d o u n f).yld i H x h->g x σ h fun σ2 j=>k { D with nx:=N,ct:=N,bk:=D.nx } σ2 j):=by
 refine⟨fun i m σ H=>m=n-i/\i<=n/\Pv i σ H,⟨n,by simp,dY _,r⟩,?_⟩;rintro i m σ H ⟨rfl,hi,p⟩;have q:=s i σ H hi p;by_cases lt:i<n
 ·refine .inr ⟨⟨q,lt⟩,Pv (i+1),fun σ' h z=>⟨n-(i+1),by omega,rfl,lt,z⟩,fun x h y=>?_⟩;obtain⟨t,a,b,A,rfl,B,rfl⟩:=y;exact v i σ H t a b lt p A B
 ·have e:i=n:=by omega
  subst e;exact .inl ⟨⟨q,az _⟩,w σ H p⟩
theorem Dr{d:Addr}{o:Obj}{u:HO}{n:Nat}{f:Nat->Hp->V->V->Prop}{g:TG}{k:TS}{D:eD}{σ:L2.St}{H:Hp}(Pv:Nat->L2.St->Hp->Prop)(r:Pv 0 σ H)(s:∀i σ H,i<=n->Pv i σ H->H d=some (.frz o u))
  (t:∀i σ H a b,i<n->Pv i σ H->f i H a b->g b σ H fun σ2 j=>k { D with nx:=Pv (i+1),ct:=Pv (i+1),bk:=D.nx } σ2 j) (v:∀σ H,Pv n σ H->D.nx σ H) :
  ∃W:Nat->Nat->L2.St->Hp->Prop,(∃m,W 0 m σ H)/\∀i m σ H,W i m σ H ->
   ((FW d o u n f).stop i H/\D.nx σ H)∨((FW d o u n f).go i H/\∃N:L2.St->Hp->Prop,(∀σ' h,N σ' h->∃l,l<m/\W (i+1) l σ' h)/\∀x h,(FW d o u n f).yld i H x h->g x σ h fun σ2 j=>k { D with nx:=N,ct:=N,bk:=D.nx } σ2 j):=by
 refine⟨fun i m σ H=>m=n-i/\i<=n/\Pv i σ H,⟨n,by simp,dY _,r⟩,?_⟩;rintro i m σ H ⟨rfl,hi,p⟩;have q:=s i σ H hi p;by_cases lt:i<n
 ·refine .inr ⟨⟨q,lt⟩,Pv (i+1),fun σ' h w=>⟨n-(i+1),by omega,rfl,lt,w⟩,fun x h y=>?_⟩;obtain⟨rfl,a,z⟩:=y;exact t i σ _ a x lt p z
 ·have e:i=n:=by omega
  subst e;exact .inl ⟨⟨q,az _⟩,v σ H p⟩
def stK(l:List (Sg×Nat)):List (TK×V):=l.map fun a=>(lD a.1,.int (a.2:Nat))
def A1(L:Ze)(H H':Hp):Prop:=∀b o,H b=some o->b∉L->H' b=some o
theorem A1.refl(L:Ze)(H:Hp):A1 L H H:=fun _ _ e _=>e
theorem A1.trans{L:Ze}{H d f:Hp}(a:A1 L H d)(b:A1 L d f):A1 L H f:=fun c o e n=>b c o (a c o e n) n
theorem af.exL{L:Ze}{H a:Hp}(S:af H a):A1 L H a:=fun b o e _=>S b o e
theorem GR.exL{d f g:Addr}{L:Ze}{H h:Hp}(a:GR d f g H h)(s:d∈L/\f∈L/\g∈L):A1 L H h:=fun b o e n=>a b o e (fun z=>n (z▸s.1)) (fun z=>n (z▸s.2.1)) (fun z=>n (z▸s.2.2))
theorem A1.upd{L:Ze}{H:Hp}{d:Addr}{o:HO}(h:d∈L):A1 L H (upd H d o):=fun b u e n=>by rw[ah (fun z:b=d=>n (by rw[z];exact h))];exact e
theorem tZ{K:Za}{H:Hp}:∀{a:Zb}{xs:List V},TKCs K H (a.map oZ) xs->xs=a.map V.str
 |[],xs,h=>by rw[oE]at h;unfold TKCs at h;exact h
 |s::a,xs,h=>by
  rw[bg]at h;unfold TKCs at h;obtain⟨v,f,rfl,d,e⟩:=h;unfold oZ pd at d;rw[d,tZ e]
  rfl
theorem Cd{K:Za}{H:Hp}{d:Zb}{a:V}(h:pd K H (lD d) a):∃b,a=.ref b/\jH K H b (d.map V.str):=by
 unfold lD pd at h;obtain⟨b,xs,rfl,e,f⟩:=h;rw[tZ f]at e;exact⟨b,rfl,e⟩
theorem vt{d f rooms J5:Zb}{a:List au}(m:fm d f rooms a):((stepsF d f rooms a J5).map (·.1)).Nodup:=by
 have h:=kB m;unfold stepsF;refine List.Nodup.sublist (List.Sublist.map _ List.filter_sublist) ?_;rw[eO];have e:((fun p:Sg×List Str=>p.1) ∘ fun g=>(g,behF rooms a J5 g))=id:=rfl;rw[e,List.map_id];exact h
theorem uj(s:List Sg)(m:gh)(L:List (Sg×List Str)):(cY s m L).2.map (·.1)=L.map (·.1):=by
 have d:∀n,n<=L.length->(cY s m (L.take n)).2.map (·.1)=(L.take n).map (·.1):=by
  intro n
  induction n with
  |zero=>intro _;rfl
  |succ n e =>
   intro g;have f:L[n]?=some L[n]:=bZ (by omega);rw[take_snoc f,gV];show((cY s m (L.take n)).2++[(L[n].1,_)]).map (fun a:Sg×Nat=>a.1)=_;rw[aD,aD,e (by omega)]
   rfl
 have:=d L.length (az _);rw[bC]at this;exact this
theorem n_.atS{m a:gh}(h:n_ m a){i:Nat}{f:List Sg}(e:m.ss[i]?=some f):a.ss[i]?=some f:=by
 obtain⟨_,⟨r,q⟩⟩:=h;rw[q,oI (by rcases lS i m.ss.length with z|z;exact z;rw[fD z]at e;cases e),e]
theorem i5.ex3{K:Za}{C x M a d f i:Addr}{j k:Ze}{m:gh}{H g:Hp}(h:i5 K C H x M a d f i j k m)(e:GR a d f H g):lg H g:=fun b xs q =>
 e b _ q (fun z=>by rw[z,h.hfa]at q;cases q) (fun z=>by rw[z,h.hsa]at q;cases q) (fun z=>by rw[z,h.hna]at q;cases q)
abbrev qC(H0:Hp)(na:Addr)(H:Hp)(ts:Ze)(st:List (List (Sg×Nat))):Prop:=Paired (fun d l=>H0 d=none/\d≠na/\H d=some (.dT (stK l))) ts st
theorem i5.moveT{K:Za}{C x M fa i j a:Addr}{l n:Ze}{m:gh}{H:Hp}{xs o:List V}(h:i5 K C H x M fa i j a l n m)(d:H a=some (.lst xs)):i5 K C (upd H a (.lst o)) x M fa i j a l n m:=by
 have k:lg H (upd H a (.lst o)):=kC d;obtain⟨⟨p,fs,g,r⟩,q,t,u,v,e,f⟩:=h;refine⟨⟨p,fs,by rw[ah (fun z=>by rw[z,d]at g;cases g)];exact g,r⟩,by rw[ah f.2.1];exact q,Paired.mapP t fun _ _ r=>k _ _ r,by rw[ah f.2.2];exact u,Paired.mapP v fun w s r=>⟨r.1,?_⟩,by rw[ah (fun z=>by rw[z,d]at e;cases e)];exact e,f⟩;obtain⟨y,A,B⟩:=r.2;exact⟨y,by rw[ah r.1.2.2];exact A,Paired.mapP B fun _ _ r=>jH.kt k r⟩
section
variable{α:Type}[DecidableEq α]
def gy(c:List (α×Int))(k:α):Int:=((c.find? fun p=>decide (p.1=k)).map (·.2)).getD 0
def ka(c:List (α×Int))(k:α)(n:Int):List (α×Int):=if(c.any fun p=>decide (p.1=k))=true then c.map (fun p=>if p.1=k then(p.1,gy c k+n)else p)else c++[(k,gy c k+n)]
def GU(succ:α->List α)(c:List (α×Int)):List (α×Int):=c.foldl (fun acc p=>(succ p.1).foldl (fun acc g=>ka acc g p.2) acc) []
def tE(succ:α->List α)(a:α):Nat->List (α×Int)
 |0=>[(a,1)]
 |n+1=>GU succ (tE succ a n)
def cU{κ:Type}(e:α->κ)(c:List (α×Int)):List (κ×V):=c.map fun p=>(e p.1,.int p.2)
theorem nX{c:List (α×Int)}{k:α}:(c.any fun p=>decide (p.1=k))=true↔k∈c.map (·.1):=by
 rw[List.any_eq_true,ay];exact⟨fun⟨p,h,e⟩=>⟨p,h,of_decide_eq_true e⟩,fun⟨p,h,e⟩=>⟨p,h,zzr1 e⟩⟩
theorem Ga{c:List (α×Int)}{k:α}{n:Int}(h:k∈c.map (·.1)):(ka c k n).map (·.1)=c.map (·.1):=by
 unfold ka;rw[if_pos (nX.2 h),eO];refine oy fun p _=>?_;show(if p.1=k then(p.1,gy c k+n)else p).1=p.1
 split<;>rfl
theorem qb{c:List (α×Int)}{k:α}{n:Int}(h:¬k∈c.map (·.1)):ka c k n=c++[(k,gy c k+n)]:=if_neg (fun z=>h (nX.1 z))
structure d_(P:α->Prop)(c:List (α×Int)):Prop where
 nd:(c.map (·.1)).Nodup
 all:∀p∈c,P p.1
theorem d_.up{P:α->Prop}{c:List (α×Int)}{k:α}{n:Int}(h:d_ P c)(l:P k):d_ P (ka c k n):=by
 have d:∀{j:List (α×Int)},(∀x∈j.map (·.1),P x)->∀p∈j,P p.1:=fun q p g=>q _ (oh g);have f:∀x∈c.map (·.1),P x:=fun x hx=>by obtain⟨p,g,rfl⟩:=ay.1 hx;exact h.all p g
 by_cases i:k∈c.map (·.1)
 ·have e:=Ga (n:=n) i;exact⟨by rw[e];exact h.nd,d (by rw[e];exact f)⟩
 ·rw[qb i];refine⟨?_,d ?_⟩
  ·rw[aD,cD];exact⟨h.nd,by simp,fun a f b m e=>i (by rw[<-eT.1 (show b∈[k]from m),<-e];exact f)⟩
  ·rw[aD];intro x hx;rcases bM.1 hx with hx|hx
   ·exact f x hx
   ·have:x=k:=by simpa using hx
    rw[this];exact l
theorem d_.ups{P:α->Prop}{n:Int}:∀{gs:List α}{c:List (α×Int)},d_ P c->(∀g∈gs,P g)->d_ P (gs.foldl (fun a g=>ka a g n) c)
 |[],c,h,_=>h
 |g::gs,c,h,d=>d_.ups (gs:=gs) (h.up (d g b_)) fun x hx=>d x (cO _ hx)
theorem d_.on{P:α->Prop}{succ:α->List α}(e:∀a,P a->∀g∈succ a,P g):∀{c d:List (α×Int)},(∀p∈c,P p.1)->d_ P d->d_ P (c.foldl (fun d p=>(succ p.1).foldl (fun d g=>ka d g p.2) d) d)
 |[],d,_,h=>h
 |p::c,d,f,h=>d_.on e (c:=c) (fun x hx=>f x (cO _ hx)) (h.ups (e _ (f p b_)))
theorem d_.nil{P:α->Prop}:d_ P ([]:List (α×Int)):=⟨oF,fun p h=>nomatch h⟩
theorem d_.it{P:α->Prop}{succ:α->List α}{a:α}(d:∀a,P a->∀g∈succ a,P g)(e:P a):∀n,d_ P (tE succ a n)
 |0=>⟨by show[a].Nodup;simp,fun p f=>by rw[eT.1 f];exact e⟩
 |n+1=>d_.on d (d_.it d e n).all .nil
variable{κ:Type}[DecidableEq κ]
theorem xG{e:α->κ}(d:∀a b,e a=e b->a=b)(k:α):∀c:List (α×Int),bL (cU e c) (e k)=(c.find? fun p=>decide (p.1=k)).map fun p=>V.int p.2
 |[]=>rfl
 |p::c=>by
  show bL ((e p.1,V.int p.2)::cU e c) (e k)=_;by_cases h:p.1=k
  ·rw[cu (by show e p.1=e k;rw[h]),uH (by simpa using h)];rfl
  ·rw[cc (fun z=>h (d _ _ z)),uG (by simpa using h),xG d k c]
theorem Dx{e:α->κ}(d:∀a b,e a=e b->a=b)(k:α)(c:List (α×Int)):(bL (cU e c) (e k)).getD (.int 0)=.int (gy c k):=by
 rw[xG d];unfold gy;cases c.find? fun p=>decide (p.1=k)<;>rfl
theorem Dw{e:α->κ}(d:∀a b,e a=e b->a=b)(k:α)(n:Int)(c:List (α×Int)):dI (cU e c) (e k) (.int (gy c k+n))=cU e (ka c k n):=by
 have f:((cU e c).any fun g=>decide (g.1=e k))=c.any fun p=>decide (p.1=k):=by
  unfold cU;rw[List.any_map];congr 1;funext p;show decide (e p.1=e k)=decide (p.1=k);exact decide_eq_decide.2 ⟨d _ _,fun z=>by rw[z]⟩
 unfold dI ka;rw[f];split
 ·unfold cU;rw[eO,eO];refine oy fun p _=>?_;show(if e p.1=e k then(e p.1,V.int (gy c k+n))else(e p.1,V.int p.2))=(e (if p.1=k then(p.1,gy c k+n)else p).1,V.int (if p.1=k then(p.1,gy c k+n)else p).2)
  by_cases h:p.1=k
  ·rw[if_pos (by rw[h]),if_pos h]
  ·rw[if_neg (fun z=>h (d _ _ z)),if_neg h]
 ·unfold cU;rw[aD]
  rfl
end
theorem F_{α β:Type}[DecidableEq α][DecidableEq β]{f:α->β}{P:α->Prop}(hf:∀a b,P a->P b->f a=f b->a=b){c:List (α×Int)}(j:∀p∈c,P p.1){k:α}(l:P k)(n:Int):
  ka (c.map fun p=>(f p.1,p.2)) (f k) n=(ka c k n).map fun p=>(f p.1,p.2):=by
 have r:∀d:List (α×Int),(∀p∈d,P p.1)->((d.map fun p=>(f p.1,p.2)).find? fun p=>decide (p.1=f k))=(d.find? fun p=>decide (p.1=k)).map fun p=>(f p.1,p.2):=by
  intro d
  induction d with
  |nil=>intro _;rfl
  |cons p d s =>
   intro h;rw[bg];by_cases z:p.1=k
   ·rw[uH (by simp[z]),uH (by simpa using z)];rfl
   ·rw[uG (by simpa using fun q=>z (hf _ _ (h p b_) l q)),uG (by simpa using z),s fun x hx=>h x (cO _ hx)]
 have o:gy (c.map fun p=>(f p.1,p.2)) (f k)=gy c k:=by
  unfold gy;rw[r c j];cases c.find? fun p=>decide (p.1=k)<;>rfl
 by_cases i:k∈c.map (·.1)
 ·have m:f k∈(c.map fun p=>(f p.1,p.2)).map (·.1):=by
   obtain⟨p,g,e⟩:=ay.1 i;rw[eO];exact ay.2 ⟨p,g,by show f p.1=f k;rw[e]⟩
  unfold ka;rw[if_pos (nX.2 i),if_pos (nX.2 m),o,eO,eO];refine oy fun p g=>?_;show(if f p.1=f k then(f p.1,gy c k+n)else(f p.1,p.2))=(f (if p.1=k then(p.1,gy c k+n)else p).1,(if p.1=k then(p.1,gy c k+n)else p).2)
  by_cases h:p.1=k
  ·rw[if_pos (by rw[h]),if_pos h]
  ·rw[if_neg (fun z=>h (hf _ _ (j p g) l z)),if_neg h]
 ·have m:¬f k∈(c.map fun p=>(f p.1,p.2)).map (·.1):=by
   intro z;rw[eO]at z;obtain⟨p,g,e⟩:=ay.1 z;exact i (ay.2 ⟨p,g,hf _ _ (j p g) l e⟩)
  rw[qb i,qb m,o,aD]
  rfl
section
variable{α β:Type}[DecidableEq α][DecidableEq β]{f:α->β}{P:α->Prop}(hf:∀a b,P a->P b->f a=f b->a=b){sA:α->List α}{sB:β->List β}(hs:∀a,P a->(∀g∈sA a,P g)/\sB (f a)=(sA a).map f)
include hf
theorem Aa{n:Int}:∀{gs:List α}{c:List (α×Int)},(∀g∈gs,P g)->d_ P c->(gs.map f).foldl (fun d g=>ka d g n) (c.map fun p=>(f p.1,p.2))=(gs.foldl (fun d g=>ka d g n) c).map fun p=>(f p.1,p.2)
 |[],c,_,_=>rfl
 |g::gs,c,e,h=>by
  show(gs.map f).foldl _ (ka (c.map fun p=>(f p.1,p.2)) (f g) n)=_;rw[F_ hf h.all (e g b_),Aa (gs:=gs) (fun x hx=>e x (cO _ hx)) (h.up (e g b_))]
  rfl
include hs
theorem AB:∀{c d:List (α×Int)},(∀p∈c,P p.1)->d_ P d->(c.map fun p=>(f p.1,p.2)).foldl (fun d p=>(sB p.1).foldl (fun d g=>ka d g p.2) d) (d.map fun p=>(f p.1,p.2))=(c.foldl (fun d p=>(sA p.1).foldl (fun d g=>ka d g p.2) d) d).map fun p=>(f p.1,p.2)
 |[],d,_,_=>rfl
 |p::c,d,e,h=>by
  obtain⟨i,j⟩:=hs p.1 (e p b_);show(c.map fun p=>(f p.1,p.2)).foldl _ ((sB (f p.1)).foldl (fun d g=>ka d g p.2) (d.map fun p=>(f p.1,p.2)))=_;rw[j,Aa hf i h,AB (c:=c) (fun x hx=>e x (cO _ hx)) (h.ups i)]
  rfl
theorem Dg{a:α}(d:P a):∀n,tE sB (f a) n=(tE sA a n).map fun p=>(f p.1,p.2)
 |0=>rfl
 |n+1=>by
  show GU sB (tE sB (f a) n)=(GU sA (tE sA a n)).map _;rw[Dg d n];exact AB hf hs (d_.it (fun a h=>(hs a h).1) d n).all .nil
end
def dJ(n:Nat):dg:=.inl (n:Int)
theorem xa(a b:Nat)(h:dJ a=dJ b):a=b:=by
 unfold dJ at h;injection h with h;omega
abbrev DZ(H0 H:Hp)(ts:Ze)(st:List (List (Sg×Nat))):Prop:=Paired (fun d l=>H0 d=none/\Rd H d (.dT (stK l))) ts st
theorem Rd.same{H H':Hp}{a:Addr}{u:HO}(S:af H H')(h:Rd H a u):Rd H' a u:=by
 rcases h with h|⟨o,h⟩
 ·exact .inl (S _ _ h)
 ·exact .inr ⟨o,S _ _ h⟩
theorem Rd.updK{H:Hp}{a d:Addr}{k:List (TK×V)}{e:List (dg×V)}{o:HO}(f:H d=some (.dK e))(h:Rd H a (.dT k)):Rd (upd H d o) a (.dT k):=by
 rcases h with h|⟨q,h⟩
 ·exact .inl (by rw[ah (fun z=>by rw[z,f]at h;cases h)];exact h)
 ·exact .inr ⟨q,by rw[ah (fun z=>by rw[z,f]at h;cases h)];exact h⟩
theorem Rd.frz{H:Hp}{a d:Addr}{k e:List (TK×V)}{o:Obj}(f:H d=some (.dT e))(h:Rd H a (.dT k)):Rd (upd H d (.frz o (.dT e))) a (.dT k):=by
 by_cases z:a=d
 ·subst z;rcases h with h|⟨q,h⟩
  ·rw[f]at h;cases h;exact .inr ⟨o,aa⟩
  ·rw[f]at h;cases h
 ·rcases h with h|⟨q,h⟩
  ·exact .inl (by rw[ah z];exact h)
  ·exact .inr ⟨q,by rw[ah z];exact h⟩
def cQ(st:List (List (Sg×Nat)))(n:Nat):List Nat:=(st.getD n []).map (·.2)
theorem d_.few{c:List (Nat×Int)}{n:Nat}(h:d_ (·<n) c):c.length<=n:=by
 have:=jj h.nd (R:=bO n) fun x hx=>by
  obtain⟨p,a,rfl⟩:=ay.1 hx;exact i8.2 (h.all p a)
 rw[ao,j3]at this;exact this
def waysF(J0 J1 rooms:Zb)(ds:List au)(f:Zb):List (List Str):=(stepsF J0 J1 rooms ds f).map (·.2)
def cntF(J0 J1 rooms:Zb)(ds:List au)(n:Nat):Int:=((tE (waysF J0 J1 rooms ds) (closF rooms ds (rooms.take 1)) n).map (·.2)).sum
theorem preSum_eq{α:Type}(c:List (α×Int))(val:Nat->Int)(e:∀(i:Nat) p,c[i]?=some p->val i=p.2):preSum val c.length=(c.map (·.2)).sum:=by
 have a:∀j,j<=c.length->preSum val j=((c.take j).map (·.2)).sum:=by
  intro j
  induction j with
  |zero=>intro _;rfl
  |succ j f =>
   intro h;have d:c[j]?=some c[j]:=bZ (by omega);rw[take_snoc d,aD,List.sum_append];show preSum val j+val j=_;rw[f (by omega),e j _ d];simp
 have:=a c.length (az _);rw[bC]at this;exact this
theorem rX{α β γ:Type}{R:α->β->Prop}{f:α->γ}{g:β->γ}(h:∀a b,R a b->f a=g b):∀{l:List α}{m:List β},Paired R l m->l.map f=m.map g
 |_,_,.nil=>rfl
 |_,_,.cons r t=>by rw[bg,bg,h _ _ r,rX h t]
section
variable{J0 J1 rooms:Zb}{ds:List au}{S:wj}(ok:xS J0 J1 rooms ds S)(le:S.2.length=S.1.fs.length)
include ok le
theorem qz{i:Nat}(hi:i<S.1.fs.length):(∀g∈cQ S.2 i,g<S.1.fs.length)/\waysF J0 J1 rooms ds (S.1.fs.getD i [])=(cQ S.2 i).map fun j=>S.1.fs.getD j []:=by
 have d:i<S.2.length:=by omega
 have h:S.2[i]?=some S.2[i]:=bZ d;obtain⟨f,hf,l⟩:=ok.st i _ h;have m:S.1.fs.getD i []=f:=by rw[ez,hf];rfl
 have n:cQ S.2 i=S.2[i].map (·.2):=by unfold cQ;rw[ez,h];rfl
 rw[m,n];constructor
 ·intro g o;obtain⟨a,q,rfl⟩:=ay.1 o;obtain⟨k,s,t⟩:=List.getElem_of_mem q;obtain⟨p,_,_,e⟩:=Paired.getL l (i:=k) (x:=a) (by rw[bZ s,t]);rcases lS a.2 S.1.fs.length with z|z
  ·exact z
  ·rw[fD z]at e;cases e
 ·unfold waysF;rw[eO];exact(rX (fun a p r=>by show S.1.fs.getD a.2 []=p.2;rw[ez,r.2];rfl) l).symm
theorem Du(n:Nat):((tE (cQ S.2) 0 n).map (·.2)).sum=cntF J0 J1 rooms ds n:=by
 have inj:∀a b,a<S.1.fs.length->b<S.1.fs.length->S.1.fs.getD a []=S.1.fs.getD b []->a=b:=by
  intro a b d g e;rw[ez,ez,bZ d,bZ g]at e;have e:S.1.fs[a]=S.1.fs[b]:=e;rcases Nat.lt_trichotomy a b with z|z|z
  ·exact absurd e (List.pairwise_iff_getElem.1 (jY.1 ok.good.nd) a b d g z)
  ·exact z
  ·exact absurd e.symm (List.pairwise_iff_getElem.1 (jY.1 ok.good.nd) b a g d z)
 have h:S.1.fs.getD 0 []=closF rooms ds (rooms.take 1):=by rw[ez,ok.zero];rfl
 have i:0<S.1.fs.length:=by
  rcases qJ S.1.fs.length with z|z
  ·have:=ok.zero;rw[fD (by omega)]at this;cases this
  ·exact z
 unfold cntF;rw[<-h,Dg (f:=fun j=>S.1.fs.getD j []) (P:=fun j=>j<S.1.fs.length) inj (sA:=cQ S.2) (fun a d=>qz ok le d) i n,eO]
 rfl
end
open Classical in
theorem uo{rooms a:Zb}{d:List au}{r:Str}:r∈closF rooms d a↔r∈rooms/\p_ d a r:=by
 unfold closF;rw[c8,decide_eq_true_iff]







abbrev Hg:List V->Hp->VK->Prop:=fun xs H Q=>(∃i,xs=[.int i]/\Q (.int i) H)∨∃k,xs=[.bl k]/\Q (.int (if k then 1 else 0)) H




def zJ:List Str:=["M","found"]
def ke(K:Za)(C_TooWide:Addr):(L2.St->XK)->TS :=
 fA (Gd (tB (kN K V1 (fu K V0 "numbers"))) (fA (Gd (bX (aJ EE (db (f8 K) (aK (fu K V0 "faces"))) (tC (.int 400)))) (wF C_TooWide (aK (tC (.str "more than 400 faces")))) (jc bD))
 (fA (jc (kj (fu K V0 "numbers") V1 (db (f8 K) (aK (fu K V0 "faces")))))
 (fA (jc (eZ (xU K "list" ee (fu K V0 "faces") (aK V1))))
 (jc (eZ (xU K "list" ee (fu K V0 "first_stories") (aK V2))))))) (jc bD))
 (jc (bc (wO K (fu K V0 "numbers") V1)))
def ip(K:Za)(sp_steps_at:Sp)(sp_FaceMap_number_at:Sp)(C_FaceMap:Addr):(L2.St->XK)->TS :=
 fA (jc (a_ (oW) U2))
 (fA (Fw (AK K (bG sp_steps_at (aM (fu K V0 "machine") (aJ (cR K) (fu K V0 "faces") V1)))) (mz K 2 (ca U3 (ca U4 (mB)))) ((fun W D σ H=>vD K V2 V3 ((fun W=>fZ C_FaceMap "number_at" sp_FaceMap_number_at [] W V0 (aM V4 (aJ yG (aJ (cR K) (fu K V0 "first_stories") V1) (eL (aK V3))))) (W σ)) D σ H)))
 (jc (bc V2)))
def ln(K:Za)(sp_FaceMap_numbered_steps:Sp)(C_FaceMap:Addr)(de:Sp)(sp_FaceMap_number_at:Sp):(L2.St->XK)->TS :=
 fA (jc (nC K V0 V1 "machine"))
 (fA (jc (nC K V0 (eL (cv)) "faces"))
 (fA (jc (nC K V0 (eL (cv)) "first_stories"))
 (fA (jc (nC K V0 (oW) "numbers"))
 (fA (jc (nC K V0 (eL (cv)) "steps"))
 (fA (ym (fun W=>fZ C_FaceMap "number_at" sp_FaceMap_number_at [] W V0 (aM (bG de (aK V1)) (eL (cv)))))
 (Ad (bX (aJ EB (db (f8 K) (aK (fu K V0 "steps"))) (db (f8 K) (aK (fu K V0 "faces"))))) (ym (fun W=>xU K "list" ee (fu K V0 "steps") (aG ((fun W=>fZ C_FaceMap "numbered_steps" sp_FaceMap_numbered_steps [] W V0 (aK (db (f8 K) (aK (fu K V0 "steps"))))) W) cv)))))))))
def wE(K:Za)(C_FaceMap:Addr)(sp_FaceMap_init:Sp):(L2.St->XK)->TS :=
 fA (t_ (fun W=>rJ C_FaceMap sp_FaceMap_init [] W (aK V0)) 1)
 (jc (bc (Ch K (aM (fu K V1 "faces") (fu K V1 "first_stories")))))
def wD(K:Za)(sp_counts_one_sign_on:Sp)(C_FaceMap:Addr)(sp_FaceMap_init:Sp):(L2.St->XK)->TS :=
 fA (t_ (fun W=>fu K ((fun W=>rJ C_FaceMap sp_FaceMap_init [] W (aK V0)) W) "steps") 2)
 (fA (jc (dw (bX (aJ EB V1 (tC (.int 0)))) (bc (tC (.int 0))) (bD)))
 (fA (jc (a_ (Fx [(tC (.int 0),tC (.int 1))]) U3))
 (fA (jc (fK (pL (aK V1)) U4 (a_ (bG sp_counts_one_sign_on (aM V2 V3)) U3)))
 (jc (bc (Ft V3))))))
inductive mT(J0 J1 rooms:Zb)(ds:List au):List Str->Prop
 |first:mT J0 J1 rooms ds (closF rooms ds (rooms.take 1))
 |step {f:Zb}{sg:Sg}:mT J0 J1 rooms ds f->sg∈cz J0 J1->behF rooms ds f sg≠[]->mT J0 J1 rooms ds (behF rooms ds f sg)
theorem ul{s:List Sg}{m:gh}:∀{L:List (Sg×List Str)}{g:Zb},g∈(cY s m L).1.fs->g∈m.fs∨∃p∈L,g=p.2:=by
 intro L;have d:∀n,n<=L.length->∀g∈(cY s m (L.take n)).1.fs,g∈m.fs∨∃p∈L.take n,g=p.2:=by
  intro n
  induction n with
  |zero=>intro _ g a;exact .inl a
  |succ n h =>
   intro j g a;have i:L[n]?=some L[n]:=bZ (by omega);rw[take_snoc i]at a ⊢;rw[gV]at a;have a:g∈((cY s m (L.take n)).1.add L[n].2 (s++[L[n].1])).fs:=a;by_cases c:L[n].2∈(cY s m (L.take n)).1.fs
   ·rw[gh.add_in c]at a;exact(h (by omega) g a).imp id fun⟨p,e,f⟩=>⟨p,eM _ e,f⟩
   ·rw[gh.add_new c]at a;rcases bM.1 a with z|z
    ·exact(h (by omega) g z).imp id fun⟨p,e,f⟩=>⟨p,eM _ e,f⟩
    ·exact .inr ⟨L[n],dA _ b_,eT.1 z⟩
 have:=d L.length (az _);rw[bC]at this;exact fun{g} a=>this g a
theorem mn{a d rooms f:Zb}{ds:List au}(h:mT a d rooms ds f):∀p∈stepsF a d rooms ds f,mT a d rooms ds p.2:=fun p e=>by
 obtain⟨g,i⟩:=c8.1 e;obtain⟨k,j,rfl⟩:=ay.1 g;exact .step h j (of_decide_eq_true i)
theorem DP{rooms d:Zb}{e:List au}:behF rooms e [] d=[]:=by
 unfold behF;split
 ·rfl
 ·refine List.eq_nil_iff_forall_not_mem.2 fun r f=>?_;obtain⟨_,x,hx,_⟩:=uo.1 f;obtain⟨a,g,_⟩:=gM.1 hx;cases g
theorem kY{d g rooms:Zb}{a:List au}:∀j,∀f∈(itF d g rooms a j).1.fs,mT d g rooms a f
 |0,f,hf=>by
  have e:(⟨[],[]⟩:gh).add (closF rooms a (rooms.take 1)) []=⟨[closF rooms a (rooms.take 1)],[[]]⟩:=gh.add_new (by simp)
  change f∈((⟨[],[]⟩:gh).add (closF rooms a (rooms.take 1)) []).fs at hf
  rw[e]at hf;rw[eT.1 hf];exact .first
 |j+1,f,hf=>by
  change f∈(nextF d g rooms a (itF d g rooms a j)).1.fs at hf
  unfold nextF at hf;rcases ul hf with z|⟨p,h,rfl⟩
  ·exact kY j f z
  ·by_cases c:(itF d g rooms a j).2.length<(itF d g rooms a j).1.fs.length
   ·refine mn (kY j _ ?_) p h;rw[ez,bZ c];exact og _
   ·rw[ez,fD (by omega)]at h;obtain⟨i,k⟩:=c8.1 h;obtain⟨l,_,rfl⟩:=ay.1 i;exact absurd DP (of_decide_eq_true k)
inductive jd(K:Za)(C Ct:Addr)(vs:List V)(H:Hp)(Q:VK)(E:XK):Prop
 |mk (x M fa sa na ta u st:Addr) (us ws:Ze) (m:gh) (J5:Zb) (J6:List Sg):(vs=[.ref x,.ref u,.ref st])->(i5 K C H x M fa sa na ta us ws m)->(H u=some (.tup (J5.map V.str)))->(iI K H st J6)->((st≠fa/\st≠sa/\st≠ta))->(m.fs.length<=400)->(m.ss.length<=400)->(J5∉m.fs->m.fs.length=400->∀e,H e=none->E (.ref Ct) (some e) (upd H e (.ext (fP e Ct none))))->(∀(us' ws':Ze) (H':Hp),(m.add J5 J6).fs.length<=400->i5 K C H' x M fa sa na ta us' ws' (m.add J5 J6)->GR fa sa na H H'->Q (.int (((m.add J5 J6).fs.idxOf J5:Nat))) H')->jd K C Ct vs H Q E
theorem Bf{K:Za}{C Ct:Addr}(c:FC K C){vs:List V}{H:Hp}{Q:VK}{E:XK}(h:jd K C Ct vs H Q E):ke K Ct (fun _=>E) (bJ Q) (start lG vs) H:=by
 obtain⟨x,M,fa,l,d,ta,u,st,D,y,m,a,J6,rfl,F,hu,al,ns,z1,z2,kx,k⟩:=h;obtain⟨i,fs,g,l1,l2,l3,G,l5,l6,l7⟩:=F.ob;have tk:nZ K H (lD a) (.ref u):=fx.isIn 8 (fO a) (SignAt.tk hu);have g1:qa K H d (.ref u) (bL (nH 0 m.fs) (lD a)):=.inr ⟨_,_,_,.inl F.hna,rfl,tk,fO a,rfl⟩;refine⟨_,rfl,_,rfl,x,C,i,fs,.ref d,rfl,g,c.cls,c.a4,G,d,_,rfl,g1,_,rfl,?_⟩;rw[kz];refine GB (P:=¬a∈m.fs) (by by_cases c:a∈m.fs<;>simp[c]) (fun p=>?_) (fun p=>?_);rotate_left
 ·have v:=Classical.not_not.1 p;have e:=gh.add_in (s:=J6) v;refine⟨_,rfl,x,C,i,fs,.ref d,rfl,g,c.cls,c.a4,G,_,rfl,d,.int ((m.fs.idxOf a:Nat)),rfl,?_,?_⟩
  ·rw[kz,if_pos v,Nat.zero_add]at g1;exact g1
  ·have:=k D y H (by rw[e];exact z1) (by rw[e];exact F) (.refl _ _ _ _);rw[e]at this;exact this
 have e:=gh.add_new (s:=J6) p;have zl:(D.map V.ref).length=m.fs.length:=by rw[ao,Paired.length F.faces]
 have zs:(y.map V.ref).length=m.ss.length:=by rw[ao,Paired.length F.stories]
 refine⟨_,rfl,x,C,i,fs,.ref fa,rfl,g,c.cls,c.a2,l2,.inl ⟨fa,_,rfl,.inl (aH.of F.hfa),rfl,_,rfl,?_⟩⟩;refine GB (P:=m.fs.length=400) (by rw[zl];simp;omega) (fun z=>⟨(by show 1<=aj;decide),fun e he=>kx p z e he⟩) fun nz=>?_;have z1:m.fs.length<400:=by omega
 have an:fx H (lD a) (.ref u):=SignAt.tk hu;refine⟨_,rfl,x,C,i,fs,.ref fa,rfl,g,c.cls,c.a2,l2,.inl ⟨fa,_,rfl,.inl (aH.of F.hfa),_,rfl,x,C,i,fs,.ref d,rfl,g,c.cls,c.a4,G,_,rfl,d,_,rfl,.inr ⟨_,_,u,F.hna,rfl,an,fO a,?_,rfl⟩,?_⟩⟩
 ·rw[w6];exact av (by omega)
 rw[jg _ (by rw[kz,if_neg p]),zl];have e1:nH 0 m.fs++[(lD a,V.int (m.fs.length:Nat))]=nH 0 (m.fs++[a]):=by rw[um,Nat.zero_add]
 rw[e1];have I:lg H (upd H d (.dT (nH 0 (m.fs++[a])))):=Hq F.hna;generalize q:upd H d (.dT (nH 0 (m.fs++[a])))=J at I ⊢;have nx:x≠d:=fun z=>by rw[z,F.hna]at g;cases g
 have L:x≠fa:=fun z=>by rw[z,F.hfa]at g;cases g
 have ap:x≠l:=fun z=>by rw[z,F.hsa]at g;cases g
 have N:fa≠d:=fun z=>by have:=F.hfa;rw[z,F.hna]at this;cases this
 have O:l≠d:=fun z=>by have:=F.hsa;rw[z,F.hna]at this;cases this
 have A:J fa=some (.lst (D.map V.ref)):=by rw[<-q,ah N];exact F.hfa
 have as:J l=some (.lst (y.map V.ref)):=by rw[<-q,ah O];exact F.hsa
 have T:J x=some (.ins C i fs):=by rw[<-q,ah nx];exact g
 refine⟨_,rfl,x,C,i,fs,.ref fa,rfl,T,c.cls,c.a2,l2,.inl ⟨rfl,_,aH.of A⟩,_,rfl,fa,_,.ref u,rfl,rfl,A,?_,?_⟩
 ·rw[zl];exact av (by omega)
 generalize f:upd J fa (.lst (D.map V.ref++[.ref u]))=U;have k2:lg J U:=by rw[<-f];exact kC A
 have B:U l=some (.lst (y.map V.ref)):=by rw[<-f,ah F.ne.1.symm];exact as
 have g2:U x=some (.ins C i fs):=by rw[<-f,ah L];exact T
 refine⟨_,rfl,x,C,i,fs,.ref l,rfl,g2,c.cls,c.a3,l3,.inl ⟨rfl,_,aH.of B⟩,_,rfl,l,_,.ref st,rfl,rfl,B,?_,?_⟩
 ·rw[zs];exact av (by omega)
 generalize t:upd U l (.lst (y.map V.ref++[.ref st]))=j;have k3:lg U j:=by rw[<-t];exact kC B
 have kt:lg H j:=(I.trans k2).trans k3;have ex:GR fa l d H j:=fun b o e n1 n2 n3=>by rw[<-t,ah n2,<-f,ah n1,<-q,ah n3];exact e
 have g3:j x=some (.ins C i fs):=ex _ _ g L ap nx;have Y:j d=some (.dT (nH 0 (m.fs++[a]))):=by rw[<-t,ah O.symm,<-f,ah N.symm,<-q,aa]
 have aC:j fa=some (.lst ((D++[u]).map V.ref)):=by rw[<-t,ah F.ne.1,<-f,aa,aD];rfl
 have aN:j l=some (.lst ((y++[st]).map V.ref)):=by rw[<-t,aa,aD];rfl
 have ab:∀{w:Addr}{s:List Sg},(w≠fa/\w≠l/\w≠ta)->iI K H w s->iI K j w s:=fun n r=>by
  obtain⟨gs,q1,q2⟩:=r;exact⟨gs,ex _ _ q1 n.1 n.2.1 (fun z=>by rw[z,F.hna]at q1;cases q1),Paired.mapP q2 fun _ _ r=>jH.kt kt r⟩
 have F3:i5 K C j x M fa l d ta (D++[u]) (y++[st]) (m.add a J6):=by
  rw[e];exact⟨⟨i,fs,g3,l1,l2,l3,G,l5,l6,l7⟩,aC,iV (Paired.mapP F.faces fun _ _ r=>kt _ _ r) (kt _ _ hu),aN,iV (Paired.mapP F.stories fun _ _ r=>⟨r.1,ab r.1 r.2⟩) ⟨ns,ab ns al⟩,Y,F.ne⟩
 have aT:nZ K j (lD a) (.ref u):=fx.isIn 8 (fO a) (SignAt.tk (kt _ _ hu));have v:a∈m.fs++[a]:=by simp
 have g5:qa K j d (.ref u) (some (.int ((m.add a J6).fs.idxOf a:Nat))):=by
  refine .inr ⟨_,lD a,u,.inl Y,rfl,aT,fO a,?_⟩;rw[kz,if_pos v,Nat.zero_add,e]
 exact⟨_,rfl,x,C,i,fs,.ref d,rfl,g3,c.cls,c.a4,G,_,rfl,d,_,rfl,g5,k _ _ j (by rw[e,aL];show _+1<=400;omega) F3 ex⟩
inductive gJ(K:Za)(C Cm Ct:Addr)(vs:List V)(H:Hp)(Q:VK)(E:XK):Prop
 |mk (x M fa sa na ta:Addr) (us ws:Ze) (m:gh) (n:Nat) (J0 J1 rooms:Zb) (ds:List au):(vs=[.ref x,.int (n:Nat)])->(i5 K C H x M fa sa na ta us ws m)->(bw Cm H M J0 J1 rooms ds)->(Good rooms m)->(m.fs.length<=400)->(n<m.fs.length)->((∃vs,H ta=some (.lst vs)))->(∀(f:Zb) (mi:gh) (e:Addr) (H':Hp),mi.fs.Nodup->mi.fs.length=400->f∉mi.fs->(∃p∈stepsF J0 J1 rooms ds (m.fs.getD n []),f=p.2)->(∀g∈mi.fs,g∈m.fs∨∃p∈stepsF J0 J1 rooms ds (m.fs.getD n []),g=p.2)->A1 [fa,sa,na] H H'->H e=none->H' e=some (.ext (fP e Ct none))->E (.ref Ct) (some e) H')->(∀(d:Addr) (us' ws':Ze) (H':Hp),(cY (m.ss.getD n []) m (stepsF J0 J1 rooms ds (m.fs.getD n []))).1.fs.length<=400->i5 K C H' x M fa sa na ta us' ws' (cY (m.ss.getD n []) m (stepsF J0 J1 rooms ds (m.fs.getD n []))).1->H' d=some (.dT (stK (cY (m.ss.getD n []) m (stepsF J0 J1 rooms ds (m.fs.getD n []))).2))->H d=none->A1 [fa,sa,na] H H'->Q (.ref d) H')->gJ K C Cm Ct vs H Q E
theorem vE{K:Za}{C Cm Ct:Addr}(c:FC K C){vs:List V}{H:Hp}{Q:VK}{E:XK}(h:gJ K C Cm Ct vs H Q E):ip K (jy Cm) (jd K C Ct) C (fun _=>E) (bJ Q) (start i0 vs) H:=by
 obtain⟨x,M,fa,sa,na,ta,us,ws,m,n,J0,J1,rooms,ds,rfl,F,MA,gd,hr,hn,⟨ap,y⟩,kx,k⟩:=h;have cn:=MA.ok.rooms26;have bz:m.fs[n]?=some m.fs[n]:=bZ hn;have as:n<m.ss.length:=by rw[gd.len];exact hn
 have N:m.ss[n]?=some m.ss[n]:=bZ as;have ef:m.fs.getD n []=m.fs[n]:=by simp[hn]
 have es:m.ss.getD n []=m.ss[n]:=by simp[as]
 rw[ef,es]at k;rw[ef]at kx;have hF:=gd.isF m.fs[n] (og _);have cs:=hF.len;obtain⟨u,hu,bI⟩:=Paired.get F.faces bz;obtain⟨w,hw,ct,cB⟩:=Paired.get F.stories N;have cC:xO (ws.map V.ref) n=some (.ref w):=cM (by rw[cX,hw];rfl);have bS:xO (us.map V.ref) n=some (.ref u):=cM (by rw[cX,hu];rfl);refine fun d hd=>?_;have S0:af H (upd H d (.dT [])):=af.new hd;have F0:=F.same S0;obtain⟨dx,fs,g,l1,l2,l3,l4,l5,l6,l7⟩:=F0.ob;refine⟨_,rfl,x,C,dx,fs,.ref M,rfl,g,c.cls,c.a1,l1,_,rfl,x,C,dx,fs,.ref fa,rfl,g,c.cls,c.a2,l2,_,rfl,fa,_,_,_,rfl,rfl,aH.of F0.hfa,bS,M,u,m.fs[n],J0,J1,rooms,ds,rfl,MA.same S0,S0 _ _ bI,hF.sub,by omega,fun I l H1 ab st A S1=>?_⟩;have F1:=F0.same S1;have aC:I≠d:=fun z=>by rw[z,aa]at A;cases A
 have fr:∀{b:Addr}{o:HO},H b=some o->b≠I:=fun e=>ae (S0 _ _ e) A;have t:∀{b:Addr}{o:HO},H b=some o->b≠d:=fun e=>ae e hd;obtain⟨c0,c2,gx,_⟩:=F.ob;refine⟨I,l,rfl,.inl ⟨ab,fun o=>?_⟩⟩;have F2:=F1.move (o:=.frz o (.dT l)) ab (br (fr F.hna));have U:lg H1 (upd H1 I (.frz o (.dT l))):=Hq ab;have d2:upd H1 I (.frz o (.dT l)) d=some (.dT []):=by rw[ah aC.symm];exact S1 _ _ aa
 have aN:upd H1 I (.frz o (.dT l)) ta=some (.lst ap):=by rw[ah (fr y)];exact S1 _ _ (S0 _ _ y)
 have f2:upd H1 I (.frz o (.dT l)) I=some (.frz o (.dT l)):=aa;have O:∀b o',H b=some o'->upd H1 I (.frz o (.dT l)) b=some o':=fun b o' e=>by rw[ah (fr e)];exact S1 _ _ (S0 _ _ e)
 have al:=st.kt U;generalize upd H1 I (.frz o (.dT l))=H2 at F2 U d2 aN f2 al O ⊢;have aT:∀p∈stepsF J0 J1 rooms ds m.fs[n],pk rooms p.2:=rO hF;have zL:(stepsF J0 J1 rooms ds m.fs[n]).length<=9:=by
  have z1:=MA.ok.asks4;have z2:=MA.ok.says4;refine bN (Ah (L:=cz J0 J1)) ?_;unfold cz;rw[aL,aL,ao,ao];show _+1<=9;omega
 have aX:=vt (J5:=m.fs[n]) MA.ok;generalize stepsF J0 J1 rooms ds m.fs[n]=L at st al aT aX zL k kx ⊢;have gq:∀i,Good rooms (cY m.ss[n] m (L.take i)).1/\n_ m (cY m.ss[n] m (L.take i)).1:=fun i=>by
  obtain⟨h1,h2,_⟩:=uk (s:=m.ss[n]) gd (by have:=gd.sl _ _ N;omega) (L.take i) fun p hp=>aT p (gj hp);exact⟨h1,h2⟩
 have b0:fa≠d:=t F.hfa;have b1:sa≠d:=t F.hsa;have a0:na≠d:=t F.hna;refine uv (fun i σ H'=>NE4 fun(B v:Ze) (x3 x4:Option V)=>G0 (σ=[some (.ref x),some (.int (n:Nat)),some (.ref d),x3,x4]) (i5 K C H' x M fa sa na ta B v (cY m.ss[n] m (L.take i)).1) (H' d=some (.dT (stK (cY m.ss[n] m (L.take i)).2))) (A1 [fa,sa,na,d] H2 H') (lg H2 H'/\(cY m.ss[n] m (L.take i)).1.fs.length<=400))
  ⟨us,ws,_,_,rfl,F2,d2,.refl _ _,fun _ _ e=>e,hr⟩ ?_ ?_ ?_
 ·rintro i σ H' _ ⟨_,_,_,_,_,_,_,ex,_⟩;exact ex _ _ f2 (by simp[br (fr F.hfa),br (fr F.hsa),br (fr F.hna),aC])
 ·rintro i σ J p a b hi ⟨B,v,x3,x4,rfl,D,d3,ex3,an,z1⟩ hp ⟨c3,ek,b2⟩;obtain⟨pr,G,rfl,uf,rfl,b3⟩:=Paired.getL al ek;obtain⟨f,rfl,Y⟩:=Cd b2;obtain⟨a4,b4⟩:=gq i;have z2:(cY m.ss[n] m (L.take i)).1.ss.length<=400:=by rw[a4.len];exact z1
  obtain⟨w',b5,co,gs,b6,a5⟩:=Paired.get D.stories (b4.atS N);have a6:xO (v.map V.ref) n=some (.ref w'):=cM (by rw[cX,b5];rfl);have Sp:af J (upd J p (.tup [.ref f,.ref uf])):=af.new hp;have a7:upd J p (.tup [.ref f,.ref uf]) p=some (.tup [.ref f,.ref uf]):=aa;generalize upd J p (.tup [.ref f,.ref uf])=H4 at Sp a7 ⊢;refine⟨p,_,rfl,cj.of a7,rfl,_,_,rfl,_,_,rfl,rfl,?_⟩;have F4:=D.same Sp;obtain⟨a8,a9,g4,m1,m2,m3,m4,m5,m6,m7⟩:=F4.ob;have b7:=Sp _ _ b6;refine⟨_,rfl,x,a8,a9,rfl,g4,m6,_,rfl,_,rfl,x,C,a8,a9,.ref sa,rfl,g4,c.cls,c.a3,m3,_,rfl,sa,_,_,_,rfl,rfl,aH.of F4.hsa,a6,_,rfl,(by show 1<=aj;decide),fun ll b8=>?_⟩;have Sl:af H4 (upd H4 ll (.lst [.ref f])):=af.new b8;have bd:upd H4 ll (.lst [.ref f]) ll=some (.lst [.ref f]):=aa;generalize upd H4 ll (.lst [.ref f])=H5 at Sl bd ⊢;have zw:gs.length<=400:=by rw[Paired.length a5];have:=gd.sl _ _ N;omega
  refine⟨w',ll,_,_,rfl,rfl,Sl _ _ b7,bd,(by rw[ao];exact dB (av (by show _+1<=1000;omega))),fun p2 bi=>?_⟩;have S2:af H5 (upd H5 p2 (.lst (gs.map V.ref++[.ref f]))):=af.new bi;have bl:upd H5 p2 (.lst (gs.map V.ref++[.ref f])) p2=some (.lst ((gs++[f]).map V.ref)):=by rw[aa,aD];rfl
  generalize upd H5 p2 (.lst (gs.map V.ref++[.ref f]))=H6 at S2 bl ⊢;have j:af J H6:=(Sp.trans Sl).trans S2;have F6:=D.same j;have ce:J ta=some (.lst ap):=ex3 _ _ aN (by simp[F.ne.2.1.symm,F.ne.2.2.symm,t y];exact fun z=>by rw[z,F.hna]at y;cases y);have np:∀{b:Addr}{o:HO},J b=some o->p2≠b:=fun e=>br (ae (Sl _ _ (Sp _ _ e)) bi);have ch:iI K H6 p2 (m.ss[n]++[pr.1]):=⟨gs++[f],bl,iV (Paired.mapP a5 fun _ _ r=>jH.kt (af.kt j) r) (jH.kt (af.kt j) Y)⟩;refine⟨x,M,fa,sa,na,ta,uf,p2,B,v,_,pr.2,m.ss[n]++[pr.1],rfl,F6,j _ _ (an _ _ b3),ch,⟨np D.hfa,np D.hsa,np ce⟩,z1,z2,(fun ci hz e he=>?_),fun bm bn H7 zz F7 e7=>?_⟩
  ·refine kx pr.2 _ e _ a4.nd hz ci ⟨pr,gp G,rfl⟩ (fun g hg=>?_) (fun b o' q T=>?_) ?_ aa
   ·exact ul (s:=m.ss[n]) hg |>.imp id fun⟨p,hp,e⟩=>⟨p,gj hp,e⟩
   ·have h6:=j _ _ (ex3 _ _ (O _ _ q) (by simp at T ⊢;exact⟨T.1,T.2.1,T.2.2,t q⟩));rw[ah (ae h6 he)];exact h6
   ·cases hq:H e with
    |none=>rfl
    |some o' =>
     by_cases c1:e∈[fa,sa,na]
     ·simp at c1;rcases c1 with rfl|rfl|rfl
      ·rw[j _ _ D.hfa]at he;cases he
      ·rw[j _ _ D.hsa]at he;cases he
      ·rw[j _ _ D.hna]at he;cases he
     ·simp at c1;have h6:=j _ _ (ex3 _ _ (O _ _ hq) (by simp;exact⟨c1.1,c1.2.1,c1.2.2,t hq⟩));rw[he]at h6;cases h6
  have ck:=F6.ex3 e7;have bq:lg J H7:=(af.kt j).trans ck;have d7:H7 d=some (.dT (stK (cY m.ss[n] m (L.take i)).2)):=e7 _ _ (j _ _ d3) b0.symm b1.symm a0.symm;have cl:bL (stK (cY m.ss[n] m (L.take i)).2) (lD pr.1)=none:=by
   refine z_ fun kv cm e=>?_;obtain⟨q,hq,rfl⟩:=ay.1 cm;have h1:q.1∈(L.take i).map (·.1):=by rw[<-uj m.ss[n] m];exact oh hq
   rw[nQ e,List.map_take]at h1;exact nK aX (by rw[cX,G];rfl) h1
  have l7:(stK (cY m.ss[n] m (L.take i)).2).length<aj:=by
   have h1:=congrArg List.length (uj m.ss[n] m (L.take i));rw[ao,ao,bf]at h1;unfold stK;rw[ao,h1];exact av (by omega)
  refine⟨_,rfl,_,rfl,d,f,_,lD pr.1,rfl,rfl,d7,wA (jH.kt bq Y),fO _,l7,bm,bn,_,_,rfl,?_,?_,?_,?_,?_⟩
  ·rw[take_snoc G,gV];exact F7.move d7 (br a0)
  ·rw[aa,jg _ cl,take_snoc G,gV];show _=some (HO.dT (stK ((cY m.ss[n] m (L.take i)).2++[_])));unfold stK;rw[aD]
   rfl
  ·exact(ex3.trans (af.exL j)).trans ((e7.exL ⟨by simp,by simp,by simp⟩).trans (A1.upd (by simp)))
  ·exact(an.trans bq).trans (Hq d7)
  ·rw[take_snoc G,gV];exact zz
 ·rintro σ J ⟨B,v,x3,x4,rfl,D,d3,ex3,an,z1⟩;rw[Paired.length st,bC]at D d3 z1;refine⟨_,rfl,k d B v J z1 D d3 hd fun b o' e T=>ex3 _ _ (O _ _ e) ?_⟩;simp at T ⊢;exact⟨T.1,T.2.1,T.2.2,t e⟩
inductive hW(K:Za)(C Cm Ct:Addr)(vs:List V)(H:Hp)(Q:VK)(E:XK):Prop
 |mk (H0:Hp) (x dx M:Addr) (J0 J1 rooms:Zb) (ds:List au):(vs=[.ref x,.ref M])->(H x=some (.ins C dx []))->(bw Cm H0 M J0 J1 rooms ds)->(H0 x=none)->(af H0 H)->(∀(f:Zb) (L:List (List Str)) (e:Addr) (H':Hp),L.Nodup->L.length=400->f∉L->mT J0 J1 rooms ds f->(∀g∈L,mT J0 J1 rooms ds g)->af H0 H'->H0 e=none->H' e=some (.ext (fP e Ct none))->E (.ref Ct) (some e) H')->(∀(fa sa na ta:Addr) (us ws ts:Ze) (S:wj) (j:Nat) (H':Hp),i5 K C H' x M fa sa na ta us ws S.1->H' ta=some (.lst (ts.map V.ref))->qC H0 na H' ts S.2->xS J0 J1 rooms ds S->S.2.length=S.1.fs.length->S=itF J0 J1 rooms ds j->S.1.fs.length<=400->af H0 H'->Q .non H')->hW K C Cm Ct vs H Q E
theorem yD{K:Za}{C Cm Ct:Addr}(c:FC K C){vs:List V}{H:Hp}{Q:VK}{E:XK}(h:hW K C Cm Ct vs H Q E):ln K (gJ K C Cm Ct) C (de Cm) (jd K C Ct) (fun _=>E) (bJ Q) (start mM vs) H:=by
 obtain⟨H0,x,dx,M,a,i,rooms,n,rfl,hx,MA,ce,S0,kx,k⟩:=h;have up:∀{H1 H2:Hp}{o:HO},af H0 H1->H2=upd H1 x o->af H0 H2:=fun S e b o q=>by rw[e,ah (ae q ce)];exact S _ _ q
 refine⟨_,rfl,_,rfl,x,C,dx,[],rfl,hx,c.cls,c.a1,(by decide),?_⟩;obtain⟨H1,e1,T,X1⟩:=pb "machine" (.ref M) hx;rw[<-e1];have S1:=up S0 e1;have a6:(b9 ("machine":Str) (.ref M) []).length<=1:=c9 _ _ _;refine⟨(by show 0<=aj;decide),fun fa G=>⟨_,rfl,x,C,dx,_,rfl,kp T G,c.cls,c.a2,by omega,?_⟩⟩;obtain⟨H2,e2,U,X2⟩:=pb "faces" (.ref fa) (kp (x:=.lst []) T G);rw[<-e2];have S2:=up (S1.trans (af.new G)) e2;have nf:fa≠x:=(ae T G).symm;have ap:=X2 _ _ aa nf;have a7:=c9 ("faces":Str) (.ref fa) (b9 ("machine":Str) (.ref M) []);refine⟨(by show 0<=aj;decide),fun y t=>⟨_,rfl,x,C,dx,_,rfl,kp U t,c.cls,c.a3,by omega,?_⟩⟩;obtain⟨H3,e3,Y,X3⟩:=pb "first_stories" (.ref y) (kp (x:=.lst []) U t);rw[<-e3];have S3:=up (S2.trans (af.new t)) e3;have ns:y≠x:=(ae U t).symm;have a8:=X3 _ _ aa ns;have a9:=X3 _ _ (kp (x:=.lst []) ap t) nf;have ch:fa≠y:=ae ap t;have bd:=c9 ("first_stories":Str) (.ref y) (b9 ("faces":Str) (.ref fa) (b9 ("machine":Str) (.ref M) []));refine fun u v=>⟨_,rfl,x,C,dx,_,rfl,kp Y v,c.cls,c.a4,by omega,?_⟩;obtain⟨H4,e4,ab,X4⟩:=pb "numbers" (.ref u) (kp (x:=.dT []) Y v);rw[<-e4];have S4:=up (S3.trans (af.new v)) e4;have nn:u≠x:=(ae Y v).symm;have bi:=X4 _ _ aa nn;have as:=X4 _ _ (kp (x:=.dT []) a9 v) nf;have aC:=X4 _ _ (kp (x:=.dT []) a8 v) ns;have bl:=c9 ("numbers":Str) (.ref u) (b9 ("first_stories":Str) (.ref y) (b9 ("faces":Str) (.ref fa) (b9 ("machine":Str) (.ref M) [])));refine⟨(by show 0<=aj;decide),fun s r=>⟨_,rfl,x,C,dx,_,rfl,kp ab r,c.cls,c.a5,by omega,?_⟩⟩;obtain⟨H5,e5,bm,X5⟩:=pb "steps" (.ref s) (kp (x:=.lst []) ab r);rw[<-e5];have S5:=up (S4.trans (af.new r)) e5;have nt:s≠x:=(ae ab r).symm;have al:=X5 _ _ aa nt;have bn:=X5 _ _ (kp (x:=.lst []) as r) nf;have bq:=X5 _ _ (kp (x:=.lst []) aC r) ns;have bz:=X5 _ _ (kp (x:=.lst []) bi r) nn;have F5:i5 K C H5 x M fa y u s [] [] ⟨[],[]⟩:=by
  refine⟨⟨dx,_,bm,?_,?_,?_,?_,?_,?_,?_⟩,bn,.nil,bq,.nil,bz,ch,ae as r,ae aC r⟩
  all_goals(show jO _ _=_;repeat (rw[dE];first|rw[if_pos rfl] | rw[if_neg (by decide +kernel)]))
  all_goals rfl
 clear e1 T X1 a6 e2 U X2 ap a7 e3 Y X3 a8 a9 bd e4 ab X4 bi as aC bl e5 bm X5 up;obtain⟨ci,ck,g5,l1,l2,l3,l4,l5,l6,l7⟩:=id F5.ob;have M5:=MA.same S5;refine⟨_,rfl,x,ci,ck,rfl,g5,l6,_,rfl,M,a,i,rooms,n,rfl,M5,fun f0 FF H6 bI hF S6=>⟨(by show 0<=aj;decide),fun st bS=>?_⟩⟩;rw[xL hF]at bI;have S7:af H6 (upd H6 st (.lst [])):=af.new bS;have b0:upd H6 st (.lst []) st=some (.lst []):=aa;generalize upd H6 st (.lst [])=H7 at S7 b0 ⊢;have aN:af H5 H7:=af.trans S6 S7;have F7:=F5.same aN;have np:∀{b:Addr}{o:HO},H5 b=some o->st≠b:=fun e=>br (ae (S6 _ _ e) bS);refine⟨x,M,fa,y,u,s,f0,st,[],[],⟨[],[]⟩,_,[],rfl,F7,S7 _ _ bI,⟨[],b0,.nil⟩,⟨np bn,np bq,np al⟩,(by show 0<=400;decide),(by show 0<=400;decide),(fun _ z=>by cases z),fun us ws H8 cl F8 e8=>?_⟩;have b1:s≠u:=fun z=>by rw[z,bz]at al;cases al
 have cm:H8 s=some (.lst (([]:Ze).map V.ref)):=e8 _ _ (aN _ _ al) F5.ne.2.1.symm F5.ne.2.2.symm b1;have in0:∀{b:Addr}{o:HO},H0 b=some o->b≠fa/\b≠y/\b≠u:=fun e=>⟨ae (S1 _ _ e) G,ae (S2 _ _ e) t,ae (S3 _ _ e) v⟩;have cn:af H0 H8:=fun b o e=>by
  obtain⟨n1,n2,n3⟩:=in0 e;exact e8 _ _ (aN _ _ (S5 _ _ e)) n1 n2 n3
 refine⟨fun m σ B=>σ=[some (.ref x),some (.ref M)]/\∃(us ws D:Ze) (j:Nat),m=500-j/\i5 K C B x M fa y u s us ws (itF a i rooms n j).1/\B s=some (.lst (D.map V.ref))/\qC H0 u B D (itF a i rooms n j).2/\xS a i rooms n (itF a i rooms n j)/\(itF a i rooms n j).2.length=j/\(itF a i rooms n j).1.fs.length<=400/\af H0 B,⟨500,rfl,us,ws,[],0,rfl,F8,cm,.nil,BI,rfl,cl,cn⟩,?_⟩;rintro m σ H9 ⟨rfl,aT,b2,D,j,rfl,O,w,aX,an,lj,z3,A⟩;obtain⟨I,J,g9,m1,m2,m3,m4,m5,m6,m7⟩:=id O.ob;refine⟨_,rfl,x,C,I,J,.ref s,rfl,g9,c.cls,c.a5,m5,.inl ⟨s,_,rfl,.inl (aH.of w),_,rfl,x,C,I,J,.ref fa,rfl,g9,c.cls,c.a2,m2,.inl ⟨fa,_,rfl,.inl (aH.of O.hfa),_,_,rfl,rfl,_,rfl,?_⟩⟩⟩;have z1:(D.map V.ref).length=j:=by rw[ao,Paired.length aX,lj]
 have z2:(aT.map V.ref).length=(itF a i rooms n j).1.fs.length:=by rw[ao,Paired.length O.faces]
 refine GB (P:=j<(itF a i rooms n j).1.fs.length) (by rw[z1,z2];simp) (fun lt=>?_) (fun ge=>?_)
 ·have AC:nextF a i rooms n (itF a i rooms n j)=itF a i rooms n (j+1):=rfl;have b3:xS a i rooms n (itF a i rooms n (j+1)):=BH an (by rw[lj];exact lt);have b4:∀{b:Addr}{o:HO},H9 b=some o->∀{d:Addr},H9 d=none->d≠b:=fun e d h=>br (ae e h);refine⟨fun σ' B=>σ'=[some (.ref x),some (.ref M)]/\∃(us ws D:Ze),i5 K C B x M fa y u s us ws (itF a i rooms n (j+1)).1/\B s=some (.lst (D.map V.ref))/\qC H0 u B D (itF a i rooms n (j+1)).2/\(itF a i rooms n (j+1)).1.fs.length<=400/\af H0 B,fun σ' B ⟨e,us,ws,D,q1,q2,L,q4⟩=>⟨500-(j+1),by omega,e,us,ws,D,j+1,rfl,q1,q2,L,b3,?_,q4⟩,?_⟩
  ·show(_++[_]).length=j+1;rw[aL,lj];rfl
  refine⟨_,rfl,x,C,I,J,.ref s,rfl,g9,c.cls,c.a5,m5,.inl ⟨rfl,_,aH.of w⟩,_,rfl,x,I,J,rfl,g9,m7,_,rfl,x,C,I,J,.ref s,rfl,g9,c.cls,c.a5,m5,.inl ⟨s,_,rfl,.inl (aH.of w),?_⟩⟩;refine⟨x,M,fa,y,u,s,aT,b2,_,j,a,i,rooms,n,by rw[z1];rfl,O,MA.same A,an.good,z3,lt,⟨_,w⟩,(fun f mi e B nd len co hf hg ex en he=>?_),fun d cs ct b5 zz cB hd a0 ex=>?_⟩
  ·have rj:mT a i rooms n ((itF a i rooms n j).1.fs.getD j []):=by
    rw[ez,bZ lt];exact kY j _ (og lt)
   have st:∀p∈stepsF a i rooms n ((itF a i rooms n j).1.fs.getD j []),mT a i rooms n p.2:=mn rj;refine kx f mi.fs e B nd len co ?_ (fun g q=>?_) (fun b o q=>?_) (A.free en) he
   ·obtain⟨p,hp,rfl⟩:=hf;exact st p hp
   ·rcases hg g q with z|⟨p,hp,rfl⟩
    ·exact kY j _ z
    ·exact st p hp
   ·obtain⟨n1,n2,n3⟩:=in0 q;exact ex _ _ (A _ _ q) (by simp[n1,n2,n3])
  have b6:s∉[fa,y,u]:=by simp[O.ne.2.1.symm,O.ne.2.2.symm,b1]
  have N:=ex _ _ w b6;have b7:af H0 b5:=fun b o e=>by
   obtain⟨n1,n2,n3⟩:=in0 e;exact ex _ _ (A _ _ e) (by simp[n1,n2,n3])
  have b8:qC H0 u b5 D (itF a i rooms n j).2:=Paired.mapP aX fun d l ⟨q1,q2,L⟩=>⟨q1,q2,ex _ _ L (by
   simp[q2];exact⟨(fun z=>by rw[z,O.hfa]at L;cases L),(fun z=>by rw[z,O.hsa]at L;cases L)⟩)⟩
  have d0:H0 d=none:=A.free a0;have cC:d≠s:=b4 w a0;refine⟨s,_,.ref d,rfl,rfl,N,?_,rfl,cs,ct,D++[d],?_,?_,?_,?_,?_⟩
  ·rw[z1];exact av (by omega)
  ·have e:(itF a i rooms n (j+1)).1=(cY ((itF a i rooms n j).1.ss.getD j []) (itF a i rooms n j).1 (stepsF a i rooms n ((itF a i rooms n j).1.fs.getD j []))).1:=by
    show(nextF a i rooms n (itF a i rooms n j)).1=_;unfold nextF;rw[lj]
   rw[e];exact cB.moveT N
  ·rw[aa,aD];rfl
  ·have e:(itF a i rooms n (j+1)).2=(itF a i rooms n j).2++[(cY ((itF a i rooms n j).1.ss.getD j []) (itF a i rooms n j).1 (stepsF a i rooms n ((itF a i rooms n j).1.fs.getD j []))).2]:=by
    show(nextF a i rooms n (itF a i rooms n j)).2=_;unfold nextF;rw[lj]
   rw[e];exact iV (Paired.mapP b8 fun d l ⟨q1,q2,L⟩=>⟨q1,q2,by rw[ah (fun z=>by rw[z,N]at L;cases L)];exact L⟩) ⟨d0,b4 O.hna a0,by rw[ah cC];exact hd⟩
  ·have e:(itF a i rooms n (j+1)).1=(cY ((itF a i rooms n j).1.ss.getD j []) (itF a i rooms n j).1 (stepsF a i rooms n ((itF a i rooms n j).1.fs.getD j []))).1:=by
    show(nextF a i rooms n (itF a i rooms n j)).1=_;unfold nextF;rw[lj]
   rw[e];exact zz
  ·intro b o e;have h1:=b7 _ _ e;rw[ah (fun z=>?_)]
   ·exact h1
   ·have h4:=S4 _ _ e;rw[z,r]at h4;cases h4
 ·have e:=an.le;exact k fa y u s aT b2 D _ j H9 O w aX an (by omega) rfl z3 A
theorem Ak{d f rooms:Zb}{a:List au}{S:wj}(ok:xS d f rooms a S)(o:S.2.length=S.1.fs.length):∀{g:Zb},mT d f rooms a g->g∈S.1.fs:=by
 intro g h
 induction h with
 |first=>exact gp ok.zero
 |step hf p q r =>
  obtain⟨i,hi,e⟩:=List.getElem_of_mem r;obtain⟨s,k⟩:=qz ok o hi;rw[ez,bZ hi]at k;have l:=k;rw[show(some S.1.fs[i]).getD []=S.1.fs[i]from rfl,e]at l;have m:behF rooms a _ _∈waysF d f rooms a _:=ay.2 ⟨(_,behF rooms a _ _),c8.2 ⟨ay.2 ⟨_,p,rfl⟩,zzr1 q⟩,rfl⟩;rw[l]at m;obtain⟨j,t,n⟩:=ay.1 m;rw[ez,bZ (s j t)]at n;rw[<-n];exact og _
inductive iD(K:Za)(Cm Ct:Addr)(vs:List V)(H:Hp)(Q:VK)(E:XK):Prop
 |mk (M:Addr) (J0 J1 rooms:Zb) (ds:List au):(vs=[.ref M])->(bw Cm H M J0 J1 rooms ds)->(∀(f:Zb) (L:List (List Str)) (e:Addr) (H':Hp),L.Nodup->L.length=400->f∉L->mT J0 J1 rooms ds f->(∀g∈L,mT J0 J1 rooms ds g)->af H H'->H e=none->H' e=some (.ext (fP e Ct none))->E (.ref Ct) (some e) H')->(∀(l:Addr) (qs:Ze) (fs:List (List Str)) (H':Hp),H' l=some (.lst (qs.map V.ref))->H l=none->qs.length=fs.length->fs.Nodup->fs.length<=400->(∀g,g∈fs↔mT J0 J1 rooms ds g)->af H H'->Q (.ref l) H')->iD K Cm Ct vs H Q E
theorem wW{K:Za}{C p q:Addr}(c:FC K C){r:List V}{H:Hp}{Q:VK}{E:XK}(h:iD K p q r H Q E):wE K C (hW K C p q) (fun _=>E) (bJ Q) (start zJ r) H:=by
 obtain⟨M,A,B,rooms,G,rfl,I,J,k⟩:=h;refine⟨_,rfl,fun x m hx n ne=>?_⟩;have L:af H (upd (upd H m (.own x)) x (.ins C m [])):=fun b o e=>by rw[ah (ae e hx)];exact kp e n
 refine⟨H,x,m,M,A,B,rooms,G,rfl,aa,I,hx,L,J,fun s t na ta us ws ts S j H1 d N O a f T U u=>⟨rfl,?_⟩⟩;obtain⟨i,l,v,l1,Y,l3,l4,l5,l6,l7⟩:=d.ob;refine⟨_,rfl,x,C,i,l,.ref s,rfl,v,c.cls,c.a2,Y,_,rfl,x,C,i,l,.ref t,rfl,v,c.cls,c.a3,l3,s,t,_,_,rfl,aH.of d.hfa,aH.of d.hsa,fun D qs w hq nq y=>?_⟩;have zu:=Paired.length d.faces;have zw:=Paired.length d.stories;have zg:=a.good.len;rw[ao,ao,zu,zw,zg,Nat.min_self]at y;refine k D qs S.1.fs _ aa (u.free w) y a.good.nd U (fun g=>⟨fun hg=>?_,Ak a f⟩) (u.trans fun b o e=>?_)
 ·subst T;exact kY _ _ hg
 ·rw[ah (ae e w),nM fun z=>by rw[hq b z]at e;cases e];exact e
inductive kP (vs:List V)(H:Hp)(Q:VK)(E:XK):Prop
 |mk (H0:Hp) (ta cd:Addr) (ts:Ze) (st:List (List (Sg×Nat))) (c:List (Nat×Int)):(vs=[.ref ta,.ref cd])->(H ta=some (.lst (ts.map V.ref)))->(DZ H0 H ts st)->(H cd=some (.dK (cU dJ c)))->(H0 cd=none)->(af H0 H)->(ts.length<=400)->(d_ (·<ts.length) c)->((∀n,n<ts.length->∀g∈cQ st n,g<ts.length))->(∀(ld:Addr) (H':Hp),H' ta=some (.lst (ts.map V.ref))->DZ H0 H' ts st->H' ld=some (.dK (cU dJ (GU (cQ st) c)))->H0 ld=none->af H0 H'->Q (.ref ld) H')->kP  vs H Q E
def HF(J:It)(g:TG)(tb:TS)(D:eD)(σ:L2.St)(H:Hp):Prop:=∃W:Nat->Nat->L2.St->Hp->Prop,(∃m,W 0 m σ H)/\∀i m σ H,W i m σ H ->
 (J.stop i H/\D.nx σ H)∨(J.go i H/\∃N:L2.St->Hp->Prop,(∀σ' H',N σ' H'->∃m',m'<m/\W (i+1) m' σ' H')/\∀x H',J.yld i H x H'->g x σ H' fun σ2 H2=>tb { D with nx:=N,ct:=N,bk:=D.nx } σ2 H2)
theorem rZ{K:Za}{u H:Hp}{x cd ld d:Addr}{s:Ze}{st:List (List (Sg×Nat))}{c f:List (Nat×Int)}{o o':Obj}{l:List (Sg×Nat)}{num:Nat}{cnt:Int}{t:Option V}{D:eD}
  (Q:H d=some (.frz o' (.dT (stK l)))) (B:H cd=some (.frz o (.dK (cU dJ c)))) (C:H x=some (.lst (s.map V.ref))) (E:H ld=some (.dK (cU dJ f))) (G:DZ u H s st) (S:af u H) (I:u ld=none) (z:s.length<=400) (T:d_ (·<s.length) f) (U:∀q∈l,q.2<s.length)
  (k:∀(t:Option V) (m:Hp),m cd=some (.frz o (.dK (cU dJ c)))->m x=some (.lst (s.map V.ref))->DZ u m s st->m ld=some (.dK (cU dJ ((l.map (·.2)).foldl (fun f g=>ka f g cnt) f)))->af u m->D.nx [some (.ref x),some (.ref cd),some (.ref ld),some (.int (num:Nat)),some (.int cnt),t] m) :
  HF (FW d o' (.dT (stK l)) (stK l).length (BJ K (stK l))) U5 (kj V2 V5 (aJ bP (oY K V2 V5 (tC (.int 0))) V4)) D [some (.ref x),some (.ref cd),some (.ref ld),some (.int (num:Nat)),some (.int cnt),t] H:=by
 have J:(stK l).length=l.length:=by unfold stK;rw[ao]
 have v:∀i,d_ (·<s.length) (((l.take i).map (·.2)).foldl (fun f g=>ka f g cnt) f):=fun i=>T.ups fun g Y=>by
  obtain⟨q,L,rfl⟩:=ay.1 Y;exact U q (gj L)
 refine Dr (fun i σ m=>∃t:Option V,σ=[some (.ref x),some (.ref cd),some (.ref ld),some (.int (num:Nat)),some (.int cnt),t]/\m d=some (.frz o' (.dT (stK l)))/\m cd=some (.frz o (.dK (cU dJ c)))/\m x=some (.lst (s.map V.ref))/\DZ u m s st/\m ld=some (.dK (cU dJ (((l.take i).map (·.2)).foldl (fun f g=>ka f g cnt) f)))/\af u m)
  ⟨_,rfl,Q,B,C,G,E,S⟩ ?_ ?_ ?_
 ·rintro i σ m _ ⟨_,_,h,_⟩;exact h
 ·rintro i σ M a b hi ⟨t,rfl,A,n,p,w,j,N⟩ ⟨ab,O,_⟩;unfold stK at O;rw[cX]at O;obtain⟨q,L,eq⟩:=Option.map_eq_some_iff.1 O;cases eq;have e1:((l.take (i+1)).map (·.2)).foldl (fun f g=>ka f g cnt) f=ka (((l.take i).map (·.2)).foldl (fun f g=>ka f g cnt) f) q.2 cnt:=by
   rw[take_snoc L,aD,qE];rfl
  have y:=v i;rw[e1];generalize((l.take i).map (·.2)).foldl (fun f g=>ka f g cnt) f=acc' at j y;have g1:qa K M ld (.int (q.2:Nat)) (bL (cU dJ acc') (dJ q.2)):=.inl ⟨_,dJ q.2,.inl j,rfl,rfl⟩;refine⟨_,rfl,ld,rfl,.inl ⟨_,.inl j⟩,_,rfl,_,g1,?_⟩;rw[Dx xa];have fw:=y.few;refine⟨_,rfl,_,_,rfl,rfl,_,rfl,_,rfl,ld,_,rfl,.inl ⟨_,dJ q.2,j,rfl,?_,rfl⟩,?_⟩
  ·unfold cU;rw[ao];exact av (by omega)
  rw[Dw xa];refine⟨_,rfl,?_,?_,?_,Paired.mapP w fun _ _ r=>⟨r.1,Rd.updK j r.2⟩,aa,fun b q e=>by rw[ah (ae e I)];exact N _ _ e⟩
  ·rw[ah (fun z=>by rw[z,j]at A;cases A)];exact A
  ·rw[ah (fun z=>by rw[z,j]at n;cases n)];exact n
  ·rw[ah (fun z=>by rw[z,j]at p;cases p)];exact p
 ·rintro σ M ⟨t,rfl,A,n,p,w,j,N⟩;rw[J,bC]at j;exact k t M n p w j N
theorem Be{K:Za}{vs:List V}{H:Hp}{Q:VK}{E:XK}(h:kP vs H Q E):kb K (bJ Q) (start kI vs) H:=by
 obtain⟨H0,ta,cd,ts,st,c,rfl,y,O,A,T,S0,z,ck,U,k⟩:=h;refine fun ld B=>?_;have S1:af H (upd H ld (.dK [])):=af.new B;have C:H0 ld=none:=S0.free B;have Y:=S1 _ _ A;refine⟨_,rfl,cd,_,rfl,.inl ⟨Y,fun o=>?_⟩⟩;have a6:cd≠ld:=ae A B;have ab:upd (upd H ld (.dK [])) cd (.frz o (.dK (cU dJ c))) cd=some (.frz o (.dK (cU dJ c))):=aa;have al:upd (upd H ld (.dK [])) cd (.frz o (.dK (cU dJ c))) ld=some (.dK (cU dJ [])):=by rw[ah a6.symm,aa];rfl
 have an:upd (upd H ld (.dK [])) cd (.frz o (.dK (cU dJ c))) ta=some (.lst (ts.map V.ref)):=by rw[ah (fun z=>by rw[z,A]at y;cases y)];exact S1 _ _ y
 have ap:DZ H0 (upd (upd H ld (.dK [])) cd (.frz o (.dK (cU dJ c)))) ts st:=Paired.mapP O fun _ _ r=>⟨r.1,Rd.updK Y (Rd.same S1 r.2)⟩;have S2:af H0 (upd (upd H ld (.dK [])) cd (.frz o (.dK (cU dJ c)))):=fun b q e=>by rw[ah (ae e T)];exact S1 _ _ (S0 _ _ e)
 generalize upd (upd H ld (.dK [])) cd (.frz o (.dK (cU dJ c)))=H2 at ab al an ap S2 ⊢;have el:(cU dJ c).length=c.length:=by unfold cU;rw[ao]
 have a8:=Paired.length O;have D:∀i,d_ (·<ts.length) ((c.take i).foldl (fun f p=>(cQ st p.1).foldl (fun f g=>ka f g p.2) f) []):=fun i=>d_.on U (fun p hp=>ck.all p (gj hp)) .nil;refine uv (fun i σ x=>GZ fun(x3 x4 G:Option V)=>HB (σ=[some (.ref ta),some (.ref cd),some (.ref ld),x3,x4,G]) (x cd=some (.frz o (.dK (cU dJ c)))) (x ta=some (.lst (ts.map V.ref))) (DZ H0 x ts st) (x ld=some (.dK (cU dJ ((c.take i).foldl (fun f p=>(cQ st p.1).foldl (fun f g=>ka f g p.2) f) [])))) (af H0 x))
  ⟨_,_,_,rfl,ab,an,ap,al,S2⟩ ?_ ?_ ?_
 ·rintro i σ x _ ⟨_,_,_,_,h,_⟩;exact h
 ·rintro i σ N p a b hi ⟨x3,x4,G,rfl,as,I,J,n,S3⟩ hp ⟨a9,ek,rfl⟩;unfold cU at ek;rw[cX]at ek;obtain⟨j,aC,a7⟩:=Option.map_eq_some_iff.1 ek;cases a7;rw[show kV (dJ j.1)=V.int (j.1:Nat)from rfl];have aN:j.1<ts.length:=ck.all j (gp aC);have Sp:af N (upd N p (.tup [.int (j.1:Nat),.int j.2])):=af.new hp;have aT:upd N p (.tup [.int (j.1:Nat),.int j.2]) p=some (.tup [.int (j.1:Nat),.int j.2]):=aa;have s:=D i;have e1:(c.take (i+1)).foldl (fun f p=>(cQ st p.1).foldl (fun f g=>ka f g p.2) f) []=(cQ st j.1).foldl (fun f g=>ka f g j.2) ((c.take i).foldl (fun f p=>(cQ st p.1).foldl (fun f g=>ka f g p.2) f) []):=by
   rw[take_snoc aC,qE];rfl
  generalize(c.take i).foldl (fun f p=>(cQ st p.1).foldl (fun f g=>ka f g p.2) f) []=f at n s e1;refine⟨p,_,rfl,cj.of aT,rfl,_,_,rfl,_,_,rfl,rfl,?_⟩;have t:=Sp _ _ as;have m:=Sp _ _ I;have u:=Sp _ _ n;have v:DZ H0 _ ts st:=Paired.mapP J fun _ _ r=>⟨r.1,Rd.same Sp r.2⟩;have S4:=S3.trans Sp;generalize upd N p (.tup [.int (j.1:Nat),.int j.2])=H4 at aT t m u v S4 ⊢;have L:ts[j.1]?=some ts[j.1]:=bZ aN;obtain⟨l,hl,aX,a0⟩:=Paired.getL v L;have a4:xO (ts.map V.ref) (j.1:Nat)=some (.ref ts[j.1]):=cM (by rw[cX,L];rfl);have M:cQ st j.1=l.map (·.2):=by unfold cQ;rw[ez,hl];rfl
  generalize ts[j.1]=d at a0 a4 L aX;have a5:∀q∈l,q.2<ts.length:=fun q hq=>U j.1 aN q.2 (by rw[M];exact oh hq);refine⟨_,rfl,_,rfl,ta,_,_,_,rfl,rfl,aH.of m,a4,d,stK l,rfl,?_⟩;rcases a0 with e|⟨o',e⟩
  ·refine .inl ⟨e,fun o'=>rZ (o':=o') aa ?_ ?_ ?_ (Paired.mapP v fun _ _ r=>⟨r.1,Rd.frz e r.2⟩) (fun b q w=>by rw[ah (ae w aX)];exact S4 _ _ w) C z s a5 (fun G x q1 q2 q3 q4 q5=>⟨_,_,G,rfl,q1,q2,q3,by rw[e1,M];exact q4,q5⟩)⟩
   ·rw[ah (fun z=>by rw[z,e]at t;cases t)];exact t
   ·rw[ah (fun z=>by rw[z,e]at m;cases m)];exact m
   ·rw[ah (fun z=>by rw[z,e]at u;cases u)];exact u
  ·exact .inr ⟨o',e,rZ e t m u v S4 C z s a5 (fun G x q1 q2 q3 q4 q5=>⟨_,_,G,rfl,q1,q2,q3,by rw[e1,M];exact q4,q5⟩)⟩
 ·rintro σ N ⟨x3,x4,G,rfl,as,I,J,n,S3⟩;rw[el,bC]at n;exact⟨_,rfl,k ld N I J n C S3⟩
inductive f6(K:Za)(Cm Ct:Addr)(vs:List V)(H:Hp)(Q:VK)(E:XK):Prop
 |mk (M:Addr) (n:Nat) (J0 J1 rooms:Zb) (ds:List au):(vs=[.ref M,.int (n:Nat)])->(bw Cm H M J0 J1 rooms ds)->(∀(f:Zb) (L:List (List Str)) (e:Addr) (H':Hp),L.Nodup->L.length=400->f∉L->mT J0 J1 rooms ds f->(∀g∈L,mT J0 J1 rooms ds g)->af H H'->H e=none->H' e=some (.ext (fP e Ct none))->E (.ref Ct) (some e) H')->(n<=1000)->(∀(fs:List (List Str)) (H':Hp),fs.Nodup->fs.length<=400->(∀g,g∈fs↔mT J0 J1 rooms ds g)->af H H'->Q (.int (cntF J0 J1 rooms ds n)) H')->f6 K Cm Ct vs H Q E
theorem wV{K:Za}{C Cm Ct:Addr}(c:FC K C){vs:List V}{H:Hp}{Q:VK}{E:XK}(h:f6 K Cm Ct vs H Q E):wD K kP C (hW K C Cm Ct) (fun _=>E) (bJ Q) (start zI vs) H:=by
 obtain⟨M,n,J0,J1,rooms,ds,rfl,MA,kx,hn,k⟩:=h;refine⟨_,rfl,fun x O hx T ne=>?_⟩;have S0:af H (upd (upd H O (.own x)) x (.ins C O [])):=fun b o e=>by rw[ah (ae e hx)];exact kp e T
 refine⟨H,x,O,M,J0,J1,rooms,ds,rfl,aa,MA,hx,S0,kx,fun fa sa na J us ws u S j y F1 U A f d eS zf S1=>⟨rfl,?_⟩⟩;obtain⟨Y,ab,g1,l1,l2,l3,l4,l5,l6,l7⟩:=F1.ob;refine⟨x,C,Y,ab,.ref J,rfl,g1,c.cls,c.a5,l5,?_⟩;have zt:u.length=S.1.fs.length:=by rw[Paired.length A,d]
 have z0:0<S.1.fs.length:=by
  rcases qJ S.1.fs.length with z|z
  ·have:=f.zero;rw[fD (by omega)]at this;cases this
  ·exact z
 refine⟨_,rfl,_,_,rfl,rfl,_,rfl,?_⟩;refine GB (P:=False) (by simp) (fun z=>z.elim) fun _=>?_;refine fun cd t=>⟨aa,[(.inl 0,.int 1)],rfl,(by decide),?_⟩;have al:DZ H y u S.2:=Paired.mapP A fun _ _ r=>⟨r.1,.inl r.2.2⟩;have B:∀i,d_ (·<u.length) (tE (cQ S.2) 0 i):=fun i=>by
  rw[zt];exact d_.it (fun a ha=>(qz f d ha).1) z0 i
 have L:af y (upd (upd y cd (.dK [])) cd (.dK (cU dJ (tE (cQ S.2) 0 0)))):=fun b o e=>by rw[ah (ae e t)];exact kp e t
 have D:upd (upd y cd (.dK [])) cd (.dK (cU dJ (tE (cQ S.2) 0 0))) cd=some (.dK (cU dJ (tE (cQ S.2) 0 0))):=aa;show aw _ _ _ _ (upd (upd y cd (.dK [])) cd (.dK (cU dJ (tE (cQ S.2) 0 0))));generalize upd (upd y cd (.dK [])) cd (.dK (cU dJ (tE (cQ S.2) 0 0)))=H2 at L D ⊢;have an:H cd=none:=S1.free t;refine⟨_,rfl,(n:Int),rfl,by omega,by omega,?_⟩;refine k7 (lo:=0) (n:=(n:Int).toNat) (fun i σ N=>HA fun(cd:Addr) (x4:Option V)=>HB (σ=[some (.ref M),some (.int (n:Nat)),some (.ref J),some (.ref cd),x4]) (N J=some (.lst (u.map V.ref))) (DZ H N u S.2) (N cd=some (.dK (cU dJ (tE (cQ S.2) 0 i)))) (H cd=none) (af H N))
  ⟨cd,_,rfl,L _ _ U,Paired.mapP al fun _ _ r=>⟨r.1,Rd.same L r.2⟩,D,an,S1.trans L⟩ ?_ ?_
 ·rintro i σ H3 hi ⟨cd,x4,rfl,G,I,s,l,S3⟩;refine⟨_,rfl,_,rfl,H,J,cd,u,S.2,_,rfl,G,I,s,l,S3,by omega,B i,fun m hm=>?_,fun ld H4 ap as aC aN S4=>⟨ld,_,rfl,ap,as,aC,aN,S4⟩⟩;rw[zt]at hm ⊢;exact(qz f d hm).1
 ·rintro σ H3 ⟨cd,x4,rfl,G,I,s,l,S3⟩;rw[eW]at s;refine⟨_,rfl,cd,_,fun i=>((tE (cQ S.2) 0 n).getD i (0,0)).2,rfl,fun i aT v e=>?_,.inl ⟨s,fun o=>?_⟩⟩
  ·unfold cU at e;rw[cX]at e;obtain⟨p,hp,ep⟩:=Option.map_eq_some_iff.1 e;cases ep;show V.int p.2=V.int ((tE (cQ S.2) 0 n).getD i (0,0)).2;rw[ez,hp];rfl
  ·have e:preSum (fun i=>((tE (cQ S.2) 0 n).getD i (0,0)).2) (cU dJ (tE (cQ S.2) 0 n)).length=cntF J0 J1 rooms ds n:=by
    unfold cU;rw[ao,preSum_eq _ _ (fun i p hp=>by rw[ez,hp];rfl)];exact Du f d n
   rw[e];exact k S.1.fs _ f.good.nd zf (fun g=>⟨fun hg=>by rw[eS]at hg;exact kY _ _ hg,Ak f d⟩) fun b q w=>by rw[ah (ae w l)];exact S3 _ _ w
structure dz(ρ:Nat->Str)(p q b far:Nat)(w0 w1 w2:Str)(sg:Sg)(rooms:Zb)(ds:List au):Prop where
 rooms:rooms=(bO (1+p+q)).map ρ
 inj:∀i j,i<1+p+q->j<1+p+q->ρ i=ρ j->i=j
 p0:0<p
 q0:0<q
 bq:b<q
 sgs:sg=aV w0∨sg=dD w2
 w01:w0≠w1
 mem:∀d,d∈ds↔(d=⟨ρ 0,aA,ρ 1⟩∨d=⟨ρ 0,aA,ρ (1+p+b)⟩)∨(∃k,k<p/\(d=⟨ρ (1+k),sg,ρ (1+(k+1) % p)⟩∨d=⟨ρ (1+k),aV w1,ρ (1+(k+far) % p)⟩))∨∃k,k<q/\(d=⟨ρ (1+p+k),sg,ρ (1+p+(k+1) % q)⟩∨d=⟨ρ (1+p+k),aV w1,ρ (1+p+(k+far) % q)⟩)
theorem eA{a b:Str}:aV a≠dD b:=fun h=>by
 have:("ask":Str)="say":=by injection h
 exact absurd this (by decide)
theorem c7{a:Str}:aV a≠aA:=fun h=>by cases h
theorem nB{a:Str}:dD a≠aA:=fun h=>by cases h
theorem kH{a:Str}:aV a≠bU:=fun h=>by cases h
theorem pE{a:Str}:dD a≠bU:=fun h=>by cases h
theorem xP{a b:Str}(h:aV a=aV b):a=b:=by
 injection h with _ h;injection h
section
variable{ρ:Nat->Str}{p q b far:Nat}{w0 w1 w2:Str}{sg:Sg}{rooms:Zb}{ds:List au}(R:dz ρ p q b far w0 w1 w2 sg rooms ds)
def G4(ρ:Nat->Str)(p q b i:Nat)(r:Str):Prop:=r=ρ (1+i % p)∨r=ρ (1+p+(b+i) % q)
open Classical in
def fcZ(ρ:Nat->Str)(p q b:Nat)(rooms:Zb)(z:Bool)(i:Nat):List Str:=rooms.filter fun r=>decide ((z=true/\r=ρ 0)∨G4 ρ p q b i r)
include R
theorem dz.sg_still:sg≠aA:=by
 rcases R.sgs with e|e
 ·rw[e];exact c7
 ·rw[e];exact nB
theorem dz.sg_hush:sg≠bU:=by
 rcases R.sgs with e|e
 ·rw[e];exact kH
 ·rw[e];exact pE
theorem dz.sg_w1:sg≠aV w1:=by
 rcases R.sgs with e|e
 ·rw[e];exact fun h=>R.w01 (xP h)
 ·rw[e];exact fun h=>eA h.symm
theorem dz.lt1{i:Nat}:1+i % p<1+p:=by have:=eP i R.p0;omega
theorem dz.lt2{i:Nat}:1+p+i % q<1+p+q:=by have:=eP i R.q0;omega
theorem dz.in0:ρ 0∈rooms:=by rw[R.rooms];exact ay.2 ⟨0,i8.2 (by omega),rfl⟩
theorem dz.in_{j:Nat}(h:j<1+p+q):ρ j∈rooms:=by rw[R.rooms];exact ay.2 ⟨j,i8.2 h,rfl⟩
theorem dz.still{a c:Str}(h:(⟨a,aA,c⟩:au)∈ds):a=ρ 0/\(c=ρ 1∨c=ρ (1+p+b)):=by
 rcases(R.mem _).1 h with(e|e)|⟨k,i,e|e⟩|⟨k,i,e|e⟩
 ·injection e with f _ g;exact⟨f,.inl g⟩
 ·injection e with f _ g;exact⟨f,.inr g⟩
 ·injection e with _ d;exact absurd d.symm R.sg_still
 ·injection e with _ d;exact absurd d.symm c7
 ·injection e with _ d;exact absurd d.symm R.sg_still
 ·injection e with _ d;exact absurd d.symm c7
theorem dz.reach{a c:Str}(h:Reach ds a c):a=ρ 0/\(c=ρ 1∨c=ρ (1+p+b)):=by
 have:=R.p0;have:=R.bq
 induction h with
 |one h=>exact R.still h
 |step _ h f =>
  obtain⟨d,g⟩:=R.still h;rcases f.2 with e|e
  ·rw[e]at d;exact absurd (R.inj 1 0 (by omega) (by omega) d) (by omega)
  ·rw[e]at d;exact absurd (R.inj (1+p+b) 0 (by omega) (by omega) d) (by omega)
theorem dz.noround(r:Str):¬Reach ds r r:=fun h=>by
 have:=R.p0;have:=R.bq;obtain⟨a,d⟩:=R.reach h;rcases d with e|e
 ·exact absurd (R.inj 0 1 (by omega) (by omega) (a.symm.trans e)) (by omega)
 ·exact absurd (R.inj 0 (1+p+b) (by omega) (by omega) (a.symm.trans e)) (by omega)
theorem dz.go0{s:Sg}(d:s≠aA){c:Str}:(⟨ρ 0,s,c⟩:au)∉ds:=fun h=>by
 rcases(R.mem _).1 h with(e|e)|⟨k,f,e|e⟩|⟨k,f,e|e⟩
 ·injection e with _ a;exact d a
 ·injection e with _ a;exact d a
 all_goals
  injection e with g a i;have:=R.inj _ _ (by omega) (by omega) g;omega
theorem dz.go1{s:Sg}{n:Nat}(d:(s=sg/\n=1)∨(s=aV w1/\n=far)){k:Nat}(o:k<p){c:Str}:(⟨ρ (1+k),s,c⟩:au)∈ds↔c=ρ (1+(k+n) % p):=by
 have m:s≠aA:=by
  rcases d with⟨rfl,_⟩|⟨rfl,_⟩
  ·exact R.sg_still
  ·exact c7
 constructor
 ·intro h;rcases(R.mem _).1 h with(e|e)|⟨j,r,e⟩|⟨j,r,e|e⟩
  ·injection e with _ a;exact absurd a m
  ·injection e with _ a;exact absurd a m
  ·rcases e with e|e<;>injection e with f a g<;>have i:=R.inj _ _ (by omega) (by omega) f<;>have i:k=j:=by omega
   ·subst i;rcases d with⟨_,rfl⟩|⟨l,_⟩
    ·exact g
    ·exact absurd (a.symm.trans l) R.sg_w1
   ·subst i;rcases d with⟨l,_⟩|⟨_,rfl⟩
    ·exact absurd (l.symm.trans a) R.sg_w1
    ·exact g
  all_goals
   injection e with f a g;have:=R.inj _ _ (by omega) (by omega) f;omega
 ·rintro rfl;refine(R.mem _).2 (.inr (.inl ⟨k,o,?_⟩));rcases d with⟨rfl,rfl⟩|⟨rfl,rfl⟩
  ·exact .inl rfl
  ·exact .inr rfl
theorem dz.go2{s:Sg}{n:Nat}(d:(s=sg/\n=1)∨(s=aV w1/\n=far)){k:Nat}(o:k<q){c:Str}:(⟨ρ (1+p+k),s,c⟩:au)∈ds↔c=ρ (1+p+(k+n) % q):=by
 have m:s≠aA:=by
  rcases d with⟨rfl,_⟩|⟨rfl,_⟩
  ·exact R.sg_still
  ·exact c7
 constructor
 ·intro h;rcases(R.mem _).1 h with(e|e)|⟨j,r,e|e⟩|⟨j,r,e⟩
  ·injection e with _ a;exact absurd a m
  ·injection e with _ a;exact absurd a m
  rotate_left 2
  ·rcases e with e|e<;>injection e with f a g<;>have i:=R.inj _ _ (by omega) (by omega) f<;>have i:k=j:=by omega
   ·subst i;rcases d with⟨_,rfl⟩|⟨l,_⟩
    ·exact g
    ·exact absurd (a.symm.trans l) R.sg_w1
   ·subst i;rcases d with⟨l,_⟩|⟨_,rfl⟩
    ·exact absurd (l.symm.trans a) R.sg_w1
    ·exact g
  all_goals
   injection e with f a g;have:=R.inj _ _ (by omega) (by omega) f;omega
 ·rintro rfl;refine(R.mem _).2 (.inr (.inr ⟨k,o,?_⟩));rcases d with⟨rfl,rfl⟩|⟨rfl,rfl⟩
  ·exact .inl rfl
  ·exact .inr rfl
open Classical in
theorem dz.mem_fc{z:Bool}{i:Nat}{r:Str}:r∈fcZ ρ p q b rooms z i↔(z=true/\r=ρ 0)∨G4 ρ p q b i r:=by
 unfold fcZ;rw[c8];refine⟨fun h=>of_decide_eq_true h.2,fun h=>⟨?_,zzr1 h⟩⟩;have d:=R.lt1 (i:=i);have a:=R.lt2 (i:=b+i);rcases h with⟨_,rfl⟩|rfl|rfl
 ·exact R.in0
 ·exact R.in_ (by omega)
 ·exact R.in_ a
theorem dz.turn{s:Sg}{n:Nat}(d:(s=sg/\n=1)∨(s=aV w1/\n=far))(z:Bool)(i:Nat):behF rooms ds (fcZ ρ p q b rooms z i) s=fcZ ρ p q b rooms false (i+n):=by
 have u:s≠aA:=by
  rcases d with⟨rfl,_⟩|⟨rfl,_⟩
  ·exact R.sg_still
  ·exact c7
 have v:s≠bU:=by
  rcases d with⟨rfl,_⟩|⟨rfl,_⟩
  ·exact R.sg_hush
  ·exact kH
 have j:(i % p+n) % p=(i+n) % p:=Nat.mod_add_mod _ _ _;have k:((b+i) % q+n) % q=(b+(i+n)) % q:=by rw[Nat.mod_add_mod,tR]
 have l:=eP i R.p0;have m:=eP (b+i) R.q0;have w:=R.lt1 (i:=i+n);have y:=R.lt2 (i:=b+(i+n));unfold behF;rw[if_neg v];show closF rooms ds _=rooms.filter _;unfold closF;refine qD fun r _=>decide_eq_decide.2 ?_;have a:∀g,g∈cS ds s (fcZ ρ p q b rooms z i)↔G4 ρ p q b (i+n) g:=fun g=>by
  rw[gM];constructor
  ·rintro⟨x,hx,f⟩;rcases R.mem_fc.1 hx with⟨_,rfl⟩|rfl|rfl
   ·exact absurd f (R.go0 u)
   ·have:=(R.go1 d l).1 f;rw[j]at this;exact .inl this
   ·have:=(R.go2 d m).1 f;rw[k]at this;exact .inr this
  ·rintro(e|e)
   ·exact⟨_,R.mem_fc.2 (.inr (.inl rfl)),(R.go1 d l).2 (by rw[j];exact e)⟩
   ·exact⟨_,R.mem_fc.2 (.inr (.inr rfl)),(R.go2 d m).2 (by rw[k];exact e)⟩
 constructor
 ·rintro⟨g,o,rfl|hr⟩
  ·exact .inr ((a _).1 o)
  ·have t:=(R.reach hr).1;rcases(a _).1 o with e|e
   ·exact absurd (R.inj _ _ (by omega) (by omega) (e.symm.trans t)) (by omega)
   ·exact absurd (R.inj _ _ (by omega) (by omega) (e.symm.trans t)) (by omega)
 ·rintro(⟨h,_⟩|h)
  ·cases h
  ·exact⟨r,(a r).2 h,.inl rfl⟩
theorem dz.none{s:Sg}(j:s≠bU)(g:s≠aA)(h:s≠sg)(i:s≠aV w1)(f:Zb):behF rooms ds f s=[]:=by
 unfold behF;rw[if_neg j];refine List.eq_nil_iff_forall_not_mem.2 fun r l=>?_;obtain⟨_,x,hx,_⟩:=uo.1 l;obtain⟨a,_,m⟩:=gM.1 hx;rcases(R.mem _).1 m with(e|e)|⟨k,n,e|e⟩|⟨k,n,e|e⟩<;>injection e with _ d
 ·exact g d
 ·exact g d
 ·exact h d
 ·exact i d
 ·exact h d
 ·exact i d
theorem dz.first:closF rooms ds (rooms.take 1)=fcZ ρ p q b rooms true 0:=by
 have a:rooms.take 1=[ρ 0]:=by rw[R.rooms,show 1+p+q=(p+q)+1 by omega,List.range_succ_eq_map];rfl
 have d:(0:Nat) % p=0:=Nat.zero_mod _;have f:(b+0) % q=b:=Nat.mod_eq_of_lt R.bq;rw[a];show closF rooms ds _=rooms.filter _;unfold closF;refine qD fun r _=>decide_eq_decide.2 ?_;unfold G4;rw[d,f];constructor
 ·rintro⟨g,i,h⟩;rw[eT.1 i]at h;rcases h with e|h
  ·exact .inl ⟨rfl,e⟩
  ·exact .inr (R.reach h).2
 ·rintro(⟨_,e⟩|e|e)
  ·exact⟨ρ 0,b_,.inl e⟩
  ·exact⟨ρ 0,b_,.inr (by rw[e];exact .one ((R.mem _).2 (.inl (.inl rfl))))⟩
  ·exact⟨ρ 0,b_,.inr (by rw[e];exact .one ((R.mem _).2 (.inl (.inr rfl))))⟩
theorem dz.ne_nil(z:Bool)(i:Nat):fcZ ρ p q b rooms z i≠[]:=List.ne_nil_of_mem (R.mem_fc.2 (.inr (.inl rfl)))
end
section
variable{ρ:Nat->Str}{p q b far:Nat}{w0 w1 w2:Str}{sg:Sg}{rooms:Zb}{ds:List au}(R:dz ρ p q b far w0 w1 w2 sg rooms ds)
include R
theorem dz.loud{r:Str}:r∈o8 ds↔r=ρ 0∨(sg=dD w2/\∃j,0<j/\j<1+p+q/\r=ρ j):=by
 have g:∀{a c w:Str},(!nO ⟨a,aV w,c⟩)=false:=fun{a c w}=>rfl;have h:∀{a c w:Str},(!nO ⟨a,dD w,c⟩)=true:=fun{a c w}=>rfl;unfold o8;rw[ay];constructor
 ·rintro⟨d,l,rfl⟩;obtain⟨i,f⟩:=c8.1 l;have ask:sg=aV w0->∀{a c:Str},d=⟨a,sg,c⟩->False:=fun e a c m=>by rw[m,e,g]at f;cases f
  rcases(R.mem _).1 i with(e|e)|⟨k,n,e|e⟩|⟨k,n,e|e⟩
  ·rw[e];exact .inl rfl
  ·rw[e];exact .inl rfl
  ·rcases R.sgs with s|s
   ·exact(ask s e).elim
   ·rw[e];exact .inr ⟨s,1+k,by omega,by omega,rfl⟩
  ·rw[e,g]at f;cases f
  ·rcases R.sgs with s|s
   ·exact(ask s e).elim
   ·rw[e];exact .inr ⟨s,1+p+k,by omega,by omega,rfl⟩
  ·rw[e,g]at f;cases f
 ·rintro(rfl|⟨s,j,o,i,rfl⟩)
  ·exact⟨_,c8.2 ⟨(R.mem _).2 (.inl (.inl rfl)),rfl⟩,rfl⟩
  ·rcases lS j (1+p)with z|z
   ·refine⟨_,c8.2 ⟨(R.mem _).2 (.inr (.inl ⟨j-1,by omega,.inl rfl⟩)),by rw[s];exact h⟩,?_⟩;show ρ (1+(j-1))=ρ j;rw[show 1+(j-1)=j by omega]
   ·refine⟨_,c8.2 ⟨(R.mem _).2 (.inr (.inr ⟨j-(1+p),by omega,.inl rfl⟩)),by rw[s];exact h⟩,?_⟩;show ρ (1+p+(j-(1+p)))=ρ j;rw[show 1+p+(j-(1+p))=j by omega]
theorem dz.inP_ne0{i:Nat}{r:Str}(h:G4 ρ p q b i r):∃j,0<j/\j<1+p+q/\r=ρ j:=by
 have d:=R.lt1 (i:=i);have a:=R.lt2 (i:=b+i);rcases h with e|e
 ·exact⟨_,by omega,by omega,e⟩
 ·exact⟨_,by omega,a,e⟩
open Classical in
theorem dz.hushA(s:sg=aV w0)(z:Bool)(i:Nat):behF rooms ds (fcZ ρ p q b rooms z i) bU=fcZ ρ p q b rooms false i:=by
 unfold behF fcZ;rw[if_pos rfl,List.filter_filter];refine qD fun r _=>?_;rw[tK,u8,decide_eq_true_iff,decide_eq_true_iff,decide_eq_true_iff];constructor
 ·rintro⟨a,h2|h2⟩
  ·exact absurd (R.loud.2 (.inl h2.2)) a
  ·exact .inr h2
 ·rintro(⟨h,_⟩|h)
  ·cases h
  ·refine⟨fun l=>?_,.inr h⟩;obtain⟨j,k,d,e⟩:=R.inP_ne0 h;rcases R.loud.1 l with f|⟨g,_⟩
   ·exact absurd (R.inj j 0 d (by omega) (e.symm.trans f)) (by omega)
   ·exact eA (s.symm.trans g)
theorem dz.hushS(s:sg=dD w2)(z:Bool)(i:Nat):behF rooms ds (fcZ ρ p q b rooms z i) bU=[]:=by
 unfold behF;rw[if_pos rfl];refine List.eq_nil_iff_forall_not_mem.2 fun r a=>?_;obtain⟨d,f⟩:=c8.1 a;refine of_decide_eq_true f (R.loud.2 ?_);rcases R.mem_fc.1 d with⟨_,e⟩|h
 ·exact .inl e
 ·exact .inr ⟨s,R.inP_ne0 h⟩
theorem dz.per{i j:Nat}(a:i % p=j % p)(d:(b+i) % q=(b+j) % q)(z:Bool):fcZ ρ p q b rooms z i=fcZ ρ p q b rooms z j:=by
 unfold fcZ G4;rw[a,d]
theorem dz.same{z:Bool}{i j:Nat}(h:fcZ ρ p q b rooms z i=fcZ ρ p q b rooms z j):i % p=j % p/\(b+i) % q=(b+j) % q:=by
 have a1:=R.lt1 (i:=i);have a2:=R.lt2 (i:=b+i);have a:=R.lt1 (i:=j);have d:=R.lt2 (i:=b+j);constructor
 ·have m:ρ (1+i % p)∈fcZ ρ p q b rooms z j:=by rw[<-h];exact R.mem_fc.2 (.inr (.inl rfl))
  rcases R.mem_fc.1 m with⟨_,e⟩|e|e
  ·have:=R.inj _ _ (by omega) (by omega) e;omega
  ·have:=R.inj _ _ (by omega) (by omega) e;omega
  ·have:=R.inj _ _ (by omega) (by omega) e;omega
 ·have m:ρ (1+p+(b+i) % q)∈fcZ ρ p q b rooms z j:=by rw[<-h];exact R.mem_fc.2 (.inr (.inr rfl))
  rcases R.mem_fc.1 m with⟨_,e⟩|e|e
  ·have:=R.inj _ _ (by omega) (by omega) e;omega
  ·have:=R.inj _ _ (by omega) (by omega) e;omega
  ·have:=R.inj _ _ (by omega) (by omega) e;omega
theorem dz.z_ne{i j:Nat}:fcZ ρ p q b rooms true i≠fcZ ρ p q b rooms false j:=fun h=>by
 have m:ρ 0∈fcZ ρ p q b rooms false j:=by rw[<-h];exact R.mem_fc.2 (.inl ⟨rfl,rfl⟩)
 rcases R.mem_fc.1 m with⟨z,_⟩|e
 ·cases z
 ·obtain⟨k,d,a,e⟩:=R.inP_ne0 e;have:=R.inj _ _ (by omega) a e;omega
theorem dz.ways{a d:Zb}(l:a=[w0,w1])(m:d=[w2])(z:Bool)(i:Nat):(sg=aV w0/\waysF a d rooms ds (fcZ ρ p q b rooms z i)=[fcZ ρ p q b rooms false (i+1),fcZ ρ p q b rooms false (i+far),fcZ ρ p q b rooms false i])∨(sg=dD w2/\waysF a d rooms ds (fcZ ρ p q b rooms z i)=[fcZ ρ p q b rooms false (i+far),fcZ ρ p q b rooms false (i+1)]):=by
 have e:cz a d=[aV w0,aV w1,dD w2,bU]:=by rw[l,m];rfl
 have j:∀i,decide (fcZ ρ p q b rooms false i≠[])=true:=fun i=>zzr1 (R.ne_nil _ _);have k:decide (([]:Zb)≠[])=false:=rfl;have f:=R.turn (.inr ⟨rfl,rfl⟩) z i;have t:=R.turn (.inl ⟨rfl,rfl⟩) z i;unfold waysF stepsF;rw[e];rcases R.sgs with s|s
 ·refine .inl ⟨s,?_⟩;have u:=R.none (s:=dD w2) pE nB (by rw[s];exact fun h=>eA h.symm) (fun h=>eA h.symm) (fcZ ρ p q b rooms z i);have g:=R.hushA s z i;rw[s]at t;simp only[bg,oE,List.filter_cons,List.filter_nil,t,f,u,g,j,k,if_true,g_,if_false]
 ·refine .inr ⟨s,?_⟩;have u:=R.none (s:=aV w0) kH c7 (by rw[s];exact fun h=>eA h) (fun h=>R.w01 (xP h)) (fcZ ρ p q b rooms z i);have g:=R.hushS s z i;rw[s]at t;simp only[bg,oE,List.filter_cons,List.filter_nil,t,f,u,g,j,k,if_true,g_,if_false]
theorem dz.rch{J0 d:Zb}(o:J0=[w0,w1])(r:d=[w2])(f:Zb):mT J0 d rooms ds f↔f∈fcZ ρ p q b rooms true 0::(bO (dQ p q)).map (fcZ ρ p q b rooms false):=by
 have t:0<dQ p q:=Nat.lcm_pos R.p0 R.q0;have g:∀i,fcZ ρ p q b rooms false i∈fcZ ρ p q b rooms true 0::(bO (dQ p q)).map (fcZ ρ p q b rooms false):=fun i=>by
  refine cO _ (ay.2 ⟨i % dQ p q,i8.2 (eP _ t),R.per (Nat.mod_mod_of_dvd _ (Nat.dvd_lcm_left p q)) ?_ false⟩);rw[Nat.add_mod,Nat.mod_mod_of_dvd _ (Nat.dvd_lcm_right p q),<-Nat.add_mod]
 constructor
 ·intro h
  induction h with
  |first=>rw[R.first];exact b_
  |@step j s hf u v n =>
   have a:behF rooms ds j s∈waysF J0 d rooms ds j:=ay.2 ⟨(s,behF rooms ds j s),c8.2 ⟨ay.2 ⟨_,u,rfl⟩,zzr1 v⟩,rfl⟩;have k:∀z i,j=fcZ ρ p q b rooms z i->behF rooms ds j s∈fcZ ρ p q b rooms true 0::(bO (dQ p q)).map (fcZ ρ p q b rooms false):=fun z i e=>by
    rw[e]at a ⊢;rcases R.ways o r z i with⟨_,l⟩|⟨_,l⟩
    ·rw[l]at a;simp only[bA,iU,or_false]at a;rcases a with h|h|h<;>rw[h]<;>exact g _
    ·rw[l]at a;simp only[bA,iU,or_false]at a;rcases a with h|h<;>rw[h]<;>exact g _
   rcases bA.1 n with e|e
   ·exact k _ _ e
   ·obtain⟨i,_,e⟩:=ay.1 e;exact k _ _ e.symm
 ·have m:sg∈cz J0 d:=by
   unfold cz;rcases R.sgs with s|s<;>rw[s,o,r]<;>simp
  have w:∀i,mT J0 d rooms ds (fcZ ρ p q b rooms false (i+1)):=fun i=>by
   induction i with
   |zero =>
    have e:=R.turn (.inl ⟨rfl,rfl⟩) true 0;have x:mT J0 d rooms ds (fcZ ρ p q b rooms true 0):=by rw[<-R.first];exact .first
    have:=mT.step x m (by rw[e];exact R.ne_nil _ _);rw[e]at this;exact this
   |succ i n =>
    have e:=R.turn (.inl ⟨rfl,rfl⟩) false (i+1);have:=mT.step n m (by rw[e];exact R.ne_nil _ _);rw[e]at this;exact this
  intro h;rcases bA.1 h with e|e
  ·rw[e,<-R.first];exact .first
  ·obtain⟨i,_,e⟩:=ay.1 e;have y:0<p * q:=Nat.mul_pos R.p0 R.q0;have l:fcZ ρ p q b rooms false (i+(p * q-1)+1)=fcZ ρ p q b rooms false i:=by
    rw[show i+(p * q-1)+1=i+p * q by omega];refine R.per (Nat.add_mul_mod_self_left _ _ _) ?_ false;rw[<-tR,Nat.add_mul_mod_self_right]
   rw[<-e,<-l];exact w _
theorem dz.nodup:(fcZ ρ p q b rooms true 0::(bO (dQ p q)).map (fcZ ρ p q b rooms false)).Nodup:=by
 refine dC.2 ⟨fun h=>?_,?_⟩
 ·obtain⟨i,_,e⟩:=ay.1 h;exact R.z_ne e.symm
 ·unfold List.Nodup;rw[uK];refine List.Pairwise.imp_of_mem (fun{i j} hi a lt e=>?_) (List.pairwise_lt_range (n:=dQ p q));have hi:=i8.1 hi;have a:=i8.1 a;obtain⟨d,f⟩:=R.same e;have g:p ∣ j-i:=Nat.dvd_of_mod_eq_zero (Nat.sub_mod_eq_zero_of_mod_eq d.symm);have k:q ∣ j-i:=by
   have:=Nat.dvd_of_mod_eq_zero (Nat.sub_mod_eq_zero_of_mod_eq f.symm);rwa[show b+j-(b+i)=j-i by omega]at this
  have:=Nat.le_of_dvd (by omega) (Nat.lcm_dvd g k);omega
theorem dz.many{d f:Zb}(i:d=[w0,w1])(j:f=[w2]){fs:List (List Str)}(k:fs.Nodup)(h:∀g,g∈fs↔mT d f rooms ds g):fs.length=1+dQ p q:=by
 have e:(fcZ ρ p q b rooms true 0::(bO (dQ p q)).map (fcZ ρ p q b rooms false)).length=1+dQ p q:=by rw[dj,ao,j3];omega
 rw[<-e];exact Nat.le_antisymm (jj k fun g a=>(R.rch i j g).1 ((h g).1 a)) (jj R.nodup fun g a=>(h g).2 ((R.rch i j g).2 a))
theorem dz.wide{a d:Zb}(i:a=[w0,w1])(j:d=[w2]){L:List (List Str)}{f:Zb}(k:L.Nodup)(len:L.length=400)(l:f∉L)(hf:mT a d rooms ds f)(h:∀g∈L,mT a d rooms ds g):400<1+dQ p q:=by
 have e:(fcZ ρ p q b rooms true 0::(bO (dQ p q)).map (fcZ ρ p q b rooms false)).length=1+dQ p q:=by rw[dj,ao,j3];omega
 rw[<-e];have:=jj (L:=f::L) (R:=fcZ ρ p q b rooms true 0::(bO (dQ p q)).map (fcZ ρ p q b rooms false)) (dC.2 ⟨l,k⟩) fun g hg=>(R.rch i j g).1 (by
  rcases bA.1 hg with rfl|hg
  ·exact hf
  ·exact h g hg)
 rw[dj,len]at this;omega
end
section
variable{α:Type}[DecidableEq α]
theorem Dl{c:List (α×Int)}{k:α}(h:k∉c.map (·.1)):gy c k=0:=by
 unfold gy;rw[List.find?_eq_none.2 fun p a=>by simpa using fun e=>h (ay.2 ⟨p,a,e⟩)]
 rfl
theorem Af(k:α)(n:Int):∀{c:List (α×Int)},(c.map (·.1)).Nodup->k∈c.map (·.1)->((c.map fun p=>if p.1=k then(p.1,gy c k+n)else p).map (·.2)).sum=(c.map (·.2)).sum+n
 |[],_,h=>nomatch h
 |p::c,d,h=>by
  obtain⟨f,i⟩:=dC.1 (show(p.1::c.map (·.1)).Nodup from d);by_cases e:p.1=k
  ·have g:gy (p::c) k=p.2:=by unfold gy;rw[uH (by simpa using e)];rfl
   have r:(c.map fun a=>if a.1=k then(a.1,gy (p::c) k+n)else a)=c:=by
    refine(oy (g:=id) fun x hx=>?_).trans (List.map_id _);exact if_neg fun z=>f (by rw[e,<-z];exact oh hx)
   rw[bg,r,if_pos e,g];simp only[bg,uJ];omega
  ·have g:gy (p::c) k=gy c k:=by unfold gy;rw[uG (by simpa using e)]
   have j:k∈c.map (·.1):=by
    rcases bA.1 (show k∈p.1::c.map (·.1)from h)with z|z
    ·exact absurd z.symm e
    ·exact z
   rw[bg,if_neg e,g];simp only[bg,uJ];have:=Af k n i j;rw[this];omega
theorem Gf{c:List (α×Int)}(a:(c.map (·.1)).Nodup)(k:α)(n:Int):((ka c k n).map (·.2)).sum=(c.map (·.2)).sum+n:=by
 by_cases i:k∈c.map (·.1)
 ·unfold ka;rw[if_pos (nX.2 i)];exact Af k n a i
 ·rw[qb i,Dl i,aD,List.sum_append];simp
theorem Ae{P:α->Prop}(n:Int):∀{a:List α}{c:List (α×Int)},d_ P c->(∀g∈a,P g)->((a.foldl (fun d g=>ka d g n) c).map (·.2)).sum=(c.map (·.2)).sum+a.length * n
 |[],c,_,_=>by simp
 |g::a,c,h,e=>by
  rw[List.foldl_cons,Ae n (h.up (e g b_)) fun x hx=>e x (cO _ hx),Gf h.nd,dj];have:((a.length+1:Nat):Int) * n=a.length * n+n:=by rw[Int.natCast_add,Int.add_mul];simp
  rw[this];omega
theorem Cj{P:α->Prop}{succ:α->List α}{w:Nat}(e:∀a,P a->∀g∈succ a,P g)(i:∀a,P a->(succ a).length=w):∀{c d:List (α×Int)},(∀p∈c,P p.1)->d_ P d->((c.foldl (fun d p=>(succ p.1).foldl (fun d g=>ka d g p.2) d) d).map (·.2)).sum=(d.map (·.2)).sum+w * (c.map (·.2)).sum
 |[],d,_,_=>by simp
 |p::c,d,j,h=>by
  have f:=j p b_;rw[List.foldl_cons,Cj e i (fun x hx=>j x (cO _ hx)) (h.ups (e _ f)),Ae p.2 h (e _ f),i _ f,bg,uJ,Int.mul_add];omega
theorem Cn{P:α->Prop}{succ:α->List α}{w:Nat}{a:α}(d:∀a,P a->∀g∈succ a,P g)(e:∀a,P a->(succ a).length=w)(f:P a):∀n,((tE succ a n).map (·.2)).sum=(w:Int) ^ n
 |0=>by show(1:Int)+0=(w:Int) ^ 0;rw[Int.pow_zero];rfl
 |n+1=>by
  show((GU succ (tE succ a n)).map (·.2)).sum=_;unfold GU;rw[Cj d e (d_.it d f n).all .nil,Cn d e f n,Int.pow_succ];simp[Int.mul_comm]
end
theorem dz.count{ρ:Nat->Str}{p q b l:Nat}{m u o:Str}{r:Sg}{rooms d j:Zb}{k:List au}(R:dz ρ p q b l m u o r rooms k)(v:d=[m,u])(y:j=[o]){w:Nat}(A:(r=aV m/\w=3)∨(r=dD o/\w=2))(n:Nat):cntF d j rooms k n=(w:Int) ^ n:=by
 unfold cntF;have z:∀f,mT d j rooms k f->∃z i,f=fcZ ρ p q b rooms z i:=fun f h=>by
  rcases bA.1 ((R.rch v y f).1 h)with e|e
  ·exact⟨_,_,e⟩
  ·obtain⟨i,_,e⟩:=ay.1 e;exact⟨_,_,e.symm⟩
 refine Cn (P:=mT d j rooms k) (fun a h g B=>?_) (fun a h=>?_) .first n
 ·obtain⟨x,hx,rfl⟩:=ay.1 B;exact mn h x hx
 ·obtain⟨z,i,rfl⟩:=z a h;rcases R.ways v y z i with⟨s,e⟩|⟨s,e⟩<;>rcases A with⟨t,rfl⟩|⟨t,rfl⟩
  ·rw[e];rfl
  ·exact absurd (s.symm.trans t) eA
  ·exact absurd (t.symm.trans s) eA
  ·rw[e];rfl
def yg(K:Za)(sp_law_take:Sp)(sp_law_names:Sp)(sp_law_anew:Sp):TS :=
 aw (eZ (bG sp_law_anew (aK V0)))
 (aw (a_ (eL (aG (bW (dR (tC (.int 19)) (tC (.int 21)) (tC (.int 400)))) (aG (bW (dR (tC (.int 16)) (tC (.int 25)) (tC (.int 401)))) (aM (bW (dR (tC (.int 7)) (tC (.int 57)) (tC (.int 400)))) (bW (dR (tC (.int 13)) (tC (.int 31)) (tC (.int 404)))))))) U1)
 (aw (a_ (aJ yG V1 (eL (aG (bW (dR (tC (.int 8)) (tC (.int 50)) (tC (.int 201)))) (aG (bW (dR (tC (.int 20)) (tC (.int 20)) (tC (.int 21)))) (aM (bW (dR (tC (.int 3)) (tC (.int 5)) (tC (.int 16)))) (bW (dR (tC (.int 1)) (tC (.int 1)) (tC (.int 2))))))))) U1)
 (aw (a_ (aJ (cR K) V1 (bG sp_law_take (aM V0 (tC (.int 8))))) (mz K 3 (ca U2 (ca U3 (ca U4 (mB))))))
 (aw (a_ (bG sp_law_names (aM V0 (tC (.int 3)))) U5)
 (aw (a_ (tC (.str "abcdefghijklmnopqrstuvwxyz")) U6)
 (aw (a_ (DV CD (aJ (cR K) (bG sp_law_names (aM V0 (tC (.int 1)))) (tC (.int 0))) (gH) (kf (tC (.int 6)))) U7)
 (aw (a_ (gF 1 [7,6] (pL (aK (aJ bP (aJ bP (tC (.int 1)) V2) V3))) U0 (oR) (aJ Ap (aJ Ap V1 (aJ yF V2 (aJ Ao V0 (tC (.int 26))))) (aJ yF V2 (aJ fb V0 (tC (.int 26)))))) U8)
 (aw (a_ (aJ (cR K) (eL (aG (bW (aM (tC (.str "ask")) (aJ (cR K) V5 (tC (.int 0))))) (aG (bW (aM (tC (.str "say")) (aJ (cR K) V5 (tC (.int 2))))) cv))) (bG sp_law_take (aM V0 (tC (.int 2))))) U9)
 (aw (a_ (aJ bP (tC (.int 1)) (bG sp_law_take (aM V0 (tC (.int 40))))) HU)
 (aw (a_ (aJ bP (aJ bP (tC (.int 1)) V2) (bG sp_law_take (aM V0 V3))) U11)
 (aw (a_ (eL (aG (bW (dR (aJ (cR K) V8 (tC (.int 0))) (bW (aK (tC (.str "still")))) (aJ (cR K) V8 (tC (.int 1))))) (aG (bW (dR (aJ (cR K) V8 (tC (.int 0))) (bW (aK (tC (.str "still")))) (aJ (cR K) V8 GI))) cv))) Hy)
 (aw (fK (gf K (eL (aG (bW (aM (tC (.int 1)) V2)) (aG (bW (aM (aJ bP (tC (.int 1)) V2) V3)) cv)))) (mz K 2 (ca U13 (ca U14 (mB)))) (fK (pL (aK GW)) U15 (aw (eZ (xU K "list" ee Fh (aG (bW (aG (aJ (cR K) V8 (aJ bP FT FS)) (aG V9 (aG (aJ (cR K) V8 (aJ bP FT (aJ fb (aJ bP FS (tC (.int 1))) GW))) cv)))) cv)))
 (eZ (xU K "list" ee Fh (aG (bW (aG (aJ (cR K) V8 (aJ bP FT FS)) (aG (bW (aM (tC (.str "ask")) (aJ (cR K) V5 (tC (.int 1))))) (aK (aJ (cR K) V8 (aJ bP FT (aJ fb (aJ bP FS FU) GW))))))) cv))))))
 (bc (bW (aG (bW (aG (DV (Bi K) V5 (gH) (kf (tC (.int 2)))) (dR (DV (Bi K) V5 (kf (tC (.int 2))) (gH)) V8 Fh))) (aG V4 (aG (aJ (cR K) (eL (aM (tC (.int 3)) (tC (.int 2)))) (db Hg (aK (aJ EE (aJ (EC K) V9 (tC (.int 0))) (tC (.str "say")))))) cv)))))))))))))))))
def zF:List Str:=["pen","sizes","one","other","many","words","letters","base","rooms","sign","far","begin","doors","first","size","k"]
def Ej(K:Za)(sp_law_same:Sp)(sp_how_many:Sp)(C_TooWide:Addr)(sp_faces_of:Sp)(C_NoRight:Addr)(C_NoMatch:Addr)(C_TrialError:Addr)(sp_law_take:Sp)(sp_law_machine:Sp)(sp_law_ring:Sp)(sp_law_open:Sp):TS :=
 aw (a_ (bG sp_law_open (aK V0)) U1)
 (aw (a_ (bG sp_law_ring (aK V1)) (mz K 3 (ca U2 (ca U3 (ca U4 (mB))))))
 (aw (a_ (bG sp_law_machine (aK V2)) U5)
 (aw (a_ (bG sp_law_take (aM V1 (tC (.int 7)))) U6)
 (aw (a_ (tC (.int 1)) U7)
 (aw (fK (pL (aK V6)) U8 (a_ (aJ jR V7 V4) U7))
 (aw (a_ (tC .non) U9)
 (aw (a_ (eL (cv)) HU)
 (aw (Ek (t_ (fun W=>rN sp_faces_of [] W (aK V5)) 9) (Ha K C_TooWide 11 (a_ (eL (aG (db (CF K) (aM GI (tC (.ref C_TrialError)))) (aG (db (CF K) (aM GI (tC (.ty "ValueError")))) (aG (db (CF K) (aM GI (tC (.ref C_NoMatch)))) (aK (db (CF K) (aM GI (tC (.ref C_NoRight))))))))) HU) (El)))
 (aw (a_ (tC .non) Hy)
 (aw (Ek (t_ (fun W=>rN sp_how_many [] W (aM V5 V6)) 12) (Ge K C_TooWide (a_ (tC (.str "wide")) Hy) (El)))
 (aw (dw (bX (aJ CH V3 (tC (.int 400)))) (bc (iz (Ci V9) (iz (aJ (Gh K) FU (eL (aG (tC (.bl true)) (dR (tC (.bl true)) (tC (.bl false)) (tC (.bl false)))))) (bG sp_law_same (aM Fh (tC (.str "wide"))))))) (bD))
 (bc (iz (db (h9 K) (aM V9 (tC (.ty "list")))) (iz (aJ EE (db (f8 K) (aK V9)) V3) (bG sp_law_same (aM Fh V7))))))))))))))))
def A0:List Str:=["script","pen","told","many","ways","made","n","due","turn","found","kinds","e","count"]
def CP:List Str:=["script"]
def nI(B:List Nat)(k:Nat):Str:=⟨(B++[97+k / 26,97+k % 26]).toArray⟩
theorem AE{B:List Nat}{i j:Nat}(e:nI B i=nI B j):i=j:=by
 unfold nI at e;injection e with e;have e:=congrArg Array.toList e;have e:=List.append_cancel_left (show B++[97+i / 26,97+i % 26]=B++[97+j / 26,97+j % 26]from e);injection e with g a;injection a with a _;have:=Nat.div_add_mod i 26;have:=Nat.div_add_mod j 26;have d:i / 26=j / 26:=by omega
 have f:i % 26=j % 26:=by omega
 rw[d,f]at *;omega
theorem C5{B:List Nat}(a:∀c∈B,kA c)(d:B.length<=6){k:Nat}(h:k<676):mO (nI B k):=by
 have e:(nI B k).cps.toList=B++[97+k / 26,97+k % 26]:=by unfold nI;simp
 refine⟨?_,?_,fun c hc=>?_⟩
 ·rw[cx,e,aL];show 1<=_+2;omega
 ·rw[cx,e,aL];show _+2<=8;omega
 ·rw[e]at hc;rcases bM.1 hc with hc|hc
  ·exact a c hc
  ·have:c=97+k / 26∨c=97+k % 26:=by simpa using hc
   rcases this with rfl|rfl<;>exact⟨by omega,by omega⟩
theorem EW{B:List Nat}{n j:Nat}(h:j<n):((bO n).map (nI B))[j]?=some (nI B j):=by
 rw[cX,List.getElem?_range h];rfl
theorem EV{B:List Nat}(d:∀c∈B,kA c)(f:B.length<=6){n:Nat}(h:n<=676):iJ ((bO n).map (nI B)):=by
 refine⟨?_,fun w g=>?_⟩
 ·rw[jY,uK];exact List.Pairwise.imp (fun{a b} ne e=>ne (AE e)) (jY.1 List.nodup_range)
 ·obtain⟨k,i,rfl⟩:=ay.1 g;exact C5 d f (by have:=i8.1 i;omega)
def GV(ρ:Nat->Str)(sg s1:Sg)(far a size k:Nat):List au:=[⟨ρ (a+k),sg,ρ (a+(k+1) % size)⟩,⟨ρ (a+k),s1,ρ (a+(k+far) % size)⟩]
def e_(ρ:Nat->Str)(sg s1:Sg)(far a size n:Nat):List au:=(bO n).flatMap (GV ρ sg s1 far a size)
theorem mo{ρ:Nat->Str}{sg f:Sg}{e a d n:Nat}:e_ ρ sg f e a d (n+1)=e_ ρ sg f e a d n++GV ρ sg f e a d n:=by
 unfold e_;rw[List.range_succ,List.flatMap_append];simp
theorem jf{ρ:Nat->Str}{f g:Sg}{e a d:Nat}:∀n,(e_ ρ f g e a d n).length=2 * n
 |0=>rfl
 |n+1=>by rw[mo,aL,jf n];show 2 * n+2=_;omega
theorem kS{ρ:Nat->Str}{g h:Sg}{f a e n:Nat}{d:au}:d∈e_ ρ g h f a e n↔∃k,k<n/\(d=⟨ρ (a+k),g,ρ (a+(k+1) % e)⟩∨d=⟨ρ (a+k),h,ρ (a+(k+f) % e)⟩):=by
 unfold e_ GV;simp[List.mem_flatMap]
def kE(ρ:Nat->Str)(p b:Nat):List au:=[⟨ρ 0,aA,ρ 1⟩,⟨ρ 0,aA,ρ (1+p+b)⟩]
def tH(ρ:Nat->Str)(p q b far:Nat)(sg s1:Sg):List au:=kE ρ p b++e_ ρ sg s1 far 1 p p++e_ ρ sg s1 far (1+p) q q
theorem xi{ρ:Nat->Str}{p q b a:Nat}{e f:Sg}{d:au}:d∈tH ρ p q b a e f↔(d=⟨ρ 0,aA,ρ 1⟩∨d=⟨ρ 0,aA,ρ (1+p+b)⟩)∨(∃k,k<p/\(d=⟨ρ (1+k),e,ρ (1+(k+1) % p)⟩∨d=⟨ρ (1+k),f,ρ (1+(k+a) % p)⟩))∨∃k,k<q/\(d=⟨ρ (1+p+k),e,ρ (1+p+(k+1) % q)⟩∨d=⟨ρ (1+p+k),f,ρ (1+p+(k+a) % q)⟩):=by
 unfold tH;rw[bM,bM,kS,kS,or_assoc];refine or_congr ?_ Iff.rfl;unfold kE;simp
theorem km{ρ:Nat->Str}{m o:Sg}{f a d N:Nat}(inj:∀i j,i<N->j<N->ρ i=ρ j->i=j)(ne:m≠o):∀n,a+n<=N->(e_ ρ m o f a d n).Nodup
 |0,_=>oF
 |n+1,h=>by
  rw[mo];refine cD.2 ⟨km inj ne n (by omega),?_,fun x hx y g e=>?_⟩
  ·unfold GV;refine dC.2 ⟨fun z=>?_,by simp⟩;have:=eT.1 z;injection this with _ l;exact ne l
  ·subst e;obtain⟨k,q,e⟩:=kS.1 hx;have p:x.a=ρ (a+k):=by rcases e with e|e<;>rw[e]
   have l:x.a=ρ (a+n):=by
    unfold GV at g;simp only[bA,iU,or_false]at g;rcases g with e|e<;>rw[e]
   have:=inj _ _ (by omega) (by omega) (p.symm.trans l);omega
theorem zr{ρ:Nat->Str}{p q b f:Nat}{g l:Sg}(inj:∀i j,i<1+p+q->j<1+p+q->ρ i=ρ j->i=j)(ne:g≠l)(u:0<p)(v:b<q):(tH ρ p q b f g l).Nodup:=by
 unfold tH;have m:∀{x:au}{a n d:Nat},x∈e_ ρ g l f a d n->∃k,k<n/\x.a=ρ (a+k):=fun{x a n d} h=>by
  obtain⟨k,o,e⟩:=kS.1 h;exact⟨k,o,by rcases e with e|e<;>rw[e]⟩
 have hf:∀{x:au},x∈kE ρ p b->x.a=ρ 0:=fun{x} h=>by
  unfold kE at h;simp only[bA,iU,or_false]at h;rcases h with e|e<;>rw[e]
 refine cD.2 ⟨cD.2 ⟨?_,km inj ne p (by omega),fun x hx y r e=>?_⟩,km inj ne q (by omega),fun x hx y r e=>?_⟩
 ·unfold kE;refine dC.2 ⟨fun z=>?_,by simp⟩;have:=eT.1 z;injection this with _ _ s;have:=inj _ _ (by omega) (by omega) s;omega
 ·subst e;obtain⟨k,o,e⟩:=m r;have:=inj _ _ (by omega) (by omega) ((hf hx).symm.trans e);omega
 ·subst e;obtain⟨k,o,e⟩:=m r;rcases bM.1 hx with hx|hx
  ·have:=inj _ _ (by omega) (by omega) ((hf hx).symm.trans e);omega
  ·obtain⟨j,w,t⟩:=m hx;have:=inj _ _ (by omega) (by omega) (t.symm.trans e);omega
def Sz(p q m:Nat):Prop:=0<p/\0<q/\p+q<=64/\m=1+dQ p q
structure Rg(J0 J1 rooms:Zb)(ds:List au)(m w:Nat):Prop where
 ok:fm J0 J1 rooms ds
 ring:∃ρ p q b far w0 w1 w2 sg,dz ρ p q b far w0 w1 w2 sg rooms ds/\J0=[w0,w1]/\J1=[w2]/\m=1+dQ p q/\((sg=aV w0/\w=3)∨(sg=dD w2/\w=2))
theorem He{B:List Nat}(H:∀c∈B,kA c)(I:B.length<=6){p q b o m w:Nat}(z:Sz p q m)(u:b<q){l f n:Str}(J:iJ [l,f,n]){r:Sg}(s:(r=aV l/\w=3)∨(r=dD n/\w=2)):Rg [l,f] [n] ((bO (1+p+q)).map (nI B)) (tH (nI B) p q b o r (aV f)) m w:=by
 obtain⟨t,v,U,L⟩:=z;have inj:∀i j,i<1+p+q->j<1+p+q->nI B i=nI B j->i=j:=fun i j _ _ e=>AE e;obtain⟨x,y⟩:=J;simp only[dC,bA,iU,or_false,not_or]at x;obtain⟨⟨A,M⟩,N,_⟩:=x;have R:dz (nI B) p q b o l f n r ((bO (1+p+q)).map (nI B)) (tH (nI B) p q b o r (aV f)) :=
  ⟨rfl,inj,t,v,u,s.imp And.left And.left,A,fun d=>xi⟩
 have inR:∀{j},j<1+p+q->nI B j∈(bO (1+p+q)).map (nI B):=fun h=>R.in_ h;refine⟨⟨⟨by simp[A],fun w h=>y w (by simp at h ⊢;rcases h with h|h<;>simp[h])⟩,⟨by simp,fun w h=>y w (by simp at h ⊢;simp[h])⟩,fun w h=>?_,EV H I (by omega),by simp,by simp,fun e=>?_,by simp,by simp,?_,zr inj R.sg_w1 t u,fun d O=>?_,?_,R.noround⟩,_,p,q,b,o,l,f,n,r,R,rfl,rfl,L,s⟩
 ·simp at h ⊢;rw[h];exact⟨fun e=>M e.symm,fun e=>N e.symm⟩
 ·have:=congrArg List.length e;simp at this
 ·rw[ao,j3];omega
 ·have Q:FX [l,f] [n] ((bO (1+p+q)).map (nI B)) d↔d.a∈(bO (1+p+q)).map (nI B)/\d.b∈(bO (1+p+q)).map (nI B)/\((∃w∈[l,f],d.sg=[("ask":Str),w])∨(∃w∈[n],d.sg=[("say":Str),w])∨d.sg=aA):=⟨fun g=>⟨g.a,g.b,g.sg⟩,fun g=>⟨g.1,g.2.1,g.2.2⟩⟩;have C:(∃w∈[l,f],r=[("ask":Str),w])∨(∃w∈[n],r=[("say":Str),w])∨r=aA:=by
   rcases s with⟨e,_⟩|⟨e,_⟩
   ·exact .inl ⟨l,by simp,e⟩
   ·exact .inr (.inl ⟨n,by simp,e⟩)
  have D:(∃w∈[l,f],aV f=[("ask":Str),w])∨(∃w∈[n],aV f=[("say":Str),w])∨aV f=aA:=.inl ⟨f,by simp,rfl⟩;have E:∀k,1+k % p<1+p+q:=fun k=>by have:=eP k t;omega
  have G:∀k,1+p+k % q<1+p+q:=fun k=>by have:=eP k v;omega
  rw[Q];rcases xi.1 O with(e|e)|⟨k,T,e|e⟩|⟨k,T,e|e⟩<;>rw[e]
  ·exact⟨inR (by omega),inR (by omega),.inr (.inr rfl)⟩
  ·exact⟨inR (by omega),inR (by omega),.inr (.inr rfl)⟩
  ·exact⟨inR (by omega),inR (E _),C⟩
  ·exact⟨inR (by omega),inR (E _),D⟩
  ·exact⟨inR (by omega),inR (G _),C⟩
  ·exact⟨inR (by omega),inR (G _),D⟩
 ·unfold tH;rw[aL,aL,jf,jf];show 2+_+_<=_;omega
theorem Ho{σ:L2.St}{H:Hp}{Q:VK}{h i j m n p q r s t u v:Int}(k:∀(l a d e f:Addr) (g:Hp),af H g->H l=none->g l=some (.lst [.ref a,.ref d,.ref e,.ref f])->g a=some (.tup [.int h,.int i,.int j])->g d=some (.tup [.int m,.int n,.int p])->g e=some (.tup [.int q,.int r,.int s])->g f=some (.tup [.int t,.int u,.int v])->Q (.ref l) g):
  eL (aG (bW (dR (tC (.int h)) (tC (.int i)) (tC (.int j)))) (aG (bW (dR (tC (.int m)) (tC (.int n)) (tC (.int p)))) (aM (bW (dR (tC (.int q)) (tC (.int r)) (tC (.int s)))) (bW (dR (tC (.int t)) (tC (.int u)) (tC (.int v))))))) σ H Q:=by
 refine⟨(by show 3<=aj;decide),fun a J=>⟨(by show 3<=aj;decide),fun d L=>⟨(by show 3<=aj;decide),fun e M=>⟨(by show 3<=aj;decide),fun f N=>⟨(by show 4<=aj;decide),fun A B=>?_⟩⟩⟩⟩⟩;have O:=af.new (o:=.tup [.int h,.int i,.int j]) J;have T:upd H a (.tup [.int h,.int i,.int j]) a=_:=aa;generalize upd H a (.tup [.int h,.int i,.int j])=C at *;have D:=af.new (o:=.tup [.int m,.int n,.int p]) L;have U:upd C d (.tup [.int m,.int n,.int p]) d=_:=aa;generalize upd C d (.tup [.int m,.int n,.int p])=E at *;have z:=af.new (o:=.tup [.int q,.int r,.int s]) M;have Y:upd E e (.tup [.int q,.int r,.int s]) e=_:=aa;generalize upd E e (.tup [.int q,.int r,.int s])=G at *;have y:=af.new (o:=.tup [.int t,.int u,.int v]) N;have h4:upd G f (.tup [.int t,.int u,.int v]) f=_:=aa;generalize upd G f (.tup [.int t,.int u,.int v])=I at *;have w:af I (upd I A (.lst [.ref a,.ref d,.ref e,.ref f])):=af.new B;have x:=((O.trans D).trans z).trans y;exact k A a d e f _ (x.trans w) (x.free B) aa (w _ _ (y _ _ (z _ _ (D _ _ T)))) (w _ _ (y _ _ (z _ _ U))) (w _ _ (y _ _ Y)) (w _ _ h4)
theorem Gs{d:Zb}(h:d.length=3):∃e f g,d=[e,f,g]:=by
 match d,h with
 |[a,b,c],_=>exact⟨a,b,c,rfl⟩
theorem Gu{d:Zb}(h:d.length=1):∃e,d=[e]:=by
 match d,h with
 |[a],_=>exact⟨a,rfl⟩
theorem rg1(a i:Nat):(a:Int)+(0+(i:Int))=((a+i:Nat):Int):=by rw[Int.zero_add];rfl
theorem rg2(a i n:Nat):(a:Int)+(0+(i:Int)+1) % (n:Int)=((a+(i+1) % n:Nat):Int):=by rw[Int.zero_add];rfl
theorem rg3(a i f n:Nat):(a:Int)+(0+(i:Int)+(f:Int)) % (n:Int)=((a+(i+f) % n:Nat):Int):=by rw[Int.zero_add];rfl
theorem ktF{f:Addr}{xs:List V}{H a:Hp}(hf:H f=some (.lst xs))(e:dH f H a):lg H a:=fun b d h=>e _ _ h fun z=>by rw[z,hf]at h;cases h
theorem Ai{K:Za}{E H:Hp}{J y s f:Addr}{w0 p w2:Str}{N:Nat}{ρ:Nat->Str}{w:Sg}{d a size:Nat}{x0 x1 x2 x3 x4 x6 x7 G m:Option V}{ts:Ze}{x:List au}{DD:eD}
  (hw:E J=some (.lst ([w0,p,w2].map V.str))) (an:J≠f) (g:E y=some (.lst (((bO N).map ρ).map V.str))) (O:y≠f) (hs:E s=some (.tup (w.map V.str))) (ap:s≠f) (aN:a+size<=N) (s0:0<size) (aC:N<=65)
  (ex:dH f E H) (hf:H f=some (.lst (ts.map V.ref))) (D:dv H ts x) (z:x.length<=500)
  (k:∀(m:Option V) (r:Ze) (C:Hp),dH f E C->C f=some (.lst (r.map V.ref))->dv C r (x++e_ ρ w (aV p) d a size size)->DD.nx [x0,x1,x2,x3,x4,some (.ref J),x6,x7,some (.ref y),some (.ref s),some (.int (d:Nat)),G,some (.ref f),some (.int (a:Nat)),some (.int (size:Nat)),m] C) :
  fK (pL (aK GW)) U15 (aw (eZ (xU K "list" ee Fh (aG (bW (aG (aJ (cR K) V8 (aJ bP FT FS)) (aG V9 (aG (aJ (cR K) V8 (aJ bP FT (aJ fb (aJ bP FS (tC (.int 1))) GW))) cv)))) cv)))
 (eZ (xU K "list" ee Fh (aG (bW (aG (aJ (cR K) V8 (aJ bP FT FS)) (aG (bW (aM (tC (.str "ask")) (aJ (cR K) V5 (tC (.int 1))))) (aK (aJ (cR K) V8 (aJ bP FT (aJ fb (aJ bP FS FU) GW))))))) cv)))) DD [x0,x1,x2,x3,x4,some (.ref J),x6,x7,some (.ref y),some (.ref s),some (.int (d:Nat)),G,some (.ref f),some (.int (a:Nat)),some (.int (size:Nat)),m] H:=by
 have room:∀{j},j<N->(((bO N).map ρ).map V.str)[j]?=some (.str (ρ j)):=fun h=>by rw[cX,cX,List.getElem?_range h];rfl
 refine⟨_,rfl,(size:Int),rfl,by omega,by omega,?_⟩;refine k7 (lo:=0) (n:=((size:Int)).toNat) (fun i σ C=>HA fun(m:Option V) (r:Ze)=>NA4 (σ=[x0,x1,x2,x3,x4,some (.ref J),x6,x7,some (.ref y),some (.ref s),some (.int (d:Nat)),G,some (.ref f),some (.int (a:Nat)),some (.int (size:Nat)),m]) (dH f E C) (C f=some (.lst (r.map V.ref))) (dv C r (x++e_ ρ w (aV p) d a size i)))
  ⟨_,ts,rfl,ex,hf,by show dv H ts (x++[]);rw[cp];exact D⟩ ?_ ?_
 ·rintro i σ L hi ⟨m,l,rfl,v,A,Q⟩;have aT:i<size:=by omega
  have T:l.length=x.length+2 * i:=by rw[Paired.length Q,aL,jf]
  have m1:(i+1) % size<size:=eP _ s0;have m2:(i+d) % size<size:=eP _ s0;have g1:=v _ _ g O;have s1:=v _ _ hs ap;refine⟨_,rfl,.inl ⟨rfl,_,aH.of A⟩,?_⟩;refine⟨_,rfl,_,rfl,_,rfl,_,_,rfl,rfl,y,_,_,_,rfl,rfl,aH.of g1,(by rw[rg1];exact cM (room (by omega))),?_⟩;refine⟨_,rfl,_,rfl,_,rfl,_,rfl,_,_,rfl,rfl,_,rfl,_,_,rfl,rfl,(by show(0:Int)<size;omega),_,_,rfl,rfl,y,_,_,_,rfl,rfl,aH.of g1,(by rw[rg2];exact cM (room (by omega))),(by show 3<=aj;decide),fun t ht=>?_⟩;have U:af L (upd L t (.tup [.str (ρ (a+i)),.ref s,.str (ρ (a+(i+1) % size))])):=af.new ht;have d1:ii (upd L t (.tup [.str (ρ (a+i)),.ref s,.str (ρ (a+(i+1) % size))])) t ⟨ρ (a+i),w,ρ (a+(i+1) % size)⟩:=⟨s,aa,U _ _ s1⟩;generalize upd L t (.tup [.str (ρ (a+i)),.ref s,.str (ρ (a+(i+1) % size))])=H2 at U d1 ⊢;have Y:=U _ _ A;refine⟨f,_,_,rfl,rfl,Y,by rw[ao,T];exact av (by omega),?_⟩;have e3:dH f H2 (upd H2 f (.lst (l.map V.ref++[.ref t]))):=fun b o q n=>by rw[ah n];exact q
  have I:upd H2 f (.lst (l.map V.ref++[.ref t])) f=some (.lst ((l++[t]).map V.ref)):=by rw[aa,aD];rfl
  have k3:=ktF Y e3;generalize upd H2 f (.lst (l.map V.ref++[.ref t]))=M at e3 I k3 ⊢;have ex3:dH f E M:=(v.trans (af.exB U)).trans e3;have D3:dv M (l++[t]) (x++e_ ρ w (aV p) d a size i++[⟨ρ (a+i),w,ρ (a+(i+1) % size)⟩]):=Paired.app ((Q.kt (af.kt U)).kt k3) (.cons (d1.kt k3) .nil);have g3:=ex3 _ _ g O;have w3:=ex3 _ _ hw an;refine⟨_,rfl,.inl ⟨rfl,_,aH.of I⟩,?_⟩;refine⟨_,rfl,_,rfl,_,rfl,_,_,rfl,rfl,y,_,_,_,rfl,rfl,aH.of g3,(by rw[rg1];exact cM (room (by omega))),?_⟩;refine⟨_,rfl,J,_,_,_,rfl,rfl,aH.of w3,rfl,(by show 2<=aj;decide),fun u hu=>?_⟩;have S4:af M (upd M u (.tup [.str "ask",.str p])):=af.new hu;have u4:SignAt (upd M u (.tup [.str "ask",.str p])) u (aV p):=aa;generalize upd M u (.tup [.str "ask",.str p])=H4 at S4 u4 ⊢;refine⟨_,rfl,_,rfl,_,rfl,_,rfl,_,_,rfl,rfl,_,rfl,_,_,rfl,rfl,(by show(0:Int)<size;omega),_,_,rfl,rfl,y,_,_,_,rfl,rfl,aH.of (S4 _ _ g3),(by rw[rg3];exact cM (room (by omega))),(by show 3<=aj;decide),fun B as=>?_⟩;have S5:af H4 (upd H4 B (.tup [.str (ρ (a+i)),.ref u,.str (ρ (a+(i+d) % size))])):=af.new as;have d5:ii (upd H4 B (.tup [.str (ρ (a+i)),.ref u,.str (ρ (a+(i+d) % size))])) B ⟨ρ (a+i),aV p,ρ (a+(i+d) % size)⟩:=⟨u,aa,S5 _ _ u4⟩;generalize upd H4 B (.tup [.str (ρ (a+i)),.ref u,.str (ρ (a+(i+d) % size))])=H5 at S5 d5 ⊢;have ab:=S5 _ _ (S4 _ _ I);refine⟨f,_,_,rfl,rfl,ab,by rw[ao,aL,T];show _+1<_;exact av (by omega),?_⟩;have e6:dH f H5 (upd H5 f (.lst ((l++[t]).map V.ref++[.ref B]))):=fun b o q n=>by rw[ah n];exact q
  have al:upd H5 f (.lst ((l++[t]).map V.ref++[.ref B])) f=some (.lst ((l++[t]++[B]).map V.ref)):=by rw[aa,aD (l₁:=l++[t])];rfl
  have k6:=ktF ab e6;generalize upd H5 f (.lst ((l++[t]).map V.ref++[.ref B]))=H6 at e6 al k6 ⊢;refine⟨_,l++[t]++[B],rfl,((ex3.trans (af.exB S4)).trans (af.exB S5)).trans e6,al,?_⟩;have:=Paired.app (((D3.kt (af.kt S4)).kt (af.kt S5)).kt k6) (.cons (d5.kt k6) .nil);rw[mo,<-g6];have e:x++e_ ρ w (aV p) d a size i++GV ρ w (aV p) d a size i=x++e_ ρ w (aV p) d a size i++[⟨ρ (a+i),w,ρ (a+(i+1) % size)⟩]++[⟨ρ (a+i),aV p,ρ (a+(i+d) % size)⟩]:=by rw[g6 (x++_)];rfl
  rw[e];exact this
 ·rintro σ L ⟨m,l,rfl,v,A,Q⟩;rw[eW]at Q;exact k m l L v A Q
inductive qh(vs:List V)(H:Hp)(Q:VK)(E:XK):Prop
 |mk (p c:Addr):(vs=[.ref p])->(jV H p c)->(∀(u t l1 l2 l3 l4:Addr) (ts:Ze) (J0 J1 rooms:Zb) (ds:List au) (m w:Nat) (H':Hp),H' u=some (.tup [.ref t,.int (m:Nat),.int (w:Nat)])->BS H' t l1 l2 l3 l4 ts J0 J1 rooms ds->Rg J0 J1 rooms ds m w->jV H' p c->dH p H H'->Q (.ref u) H')->qh vs H Q E
theorem Eu{K:Za}{vs:List V}{H:Hp}{Q:VK}{E:XK}(h:qh vs H Q E):yg K jx nj vA (bJ Q) (start zF vs) H:=by
 obtain⟨p,c,rfl,hp,k⟩:=h;refine⟨_,rfl,p,c,rfl,hp,fun H1 p1 x1=>?_⟩;dsimp only;rw[aw,a_];refine Ho fun la t1 t2 t3 t4 H2 S2 ef ha h1 h2 h3 h4=>?_;refine⟨_,rfl,?_⟩;dsimp only;refine Ho fun lb t5 t6 t7 t8 H3 S3 eg hb h5 h6 h7 h8=>?_;refine⟨la,lb,_,_,rfl,rfl,S3 _ _ ha,hb,(by show 8<=aj;decide),fun lc nc=>?_⟩;have S4:af H3 (upd H3 lc (.lst [.ref t1,.ref t2,.ref t3,.ref t4,.ref t5,.ref t6,.ref t7,.ref t8])):=af.new nc;have hc:upd H3 lc (.lst [.ref t1,.ref t2,.ref t3,.ref t4,.ref t5,.ref t6,.ref t7,.ref t8]) lc=_:=aa;dsimp only[List.cons_append,List.nil_append];generalize upd H3 lc (.lst [.ref t1,.ref t2,.ref t3,.ref t4,.ref t5,.ref t6,.ref t7,.ref t8])=H4 at S4 hc ⊢;have g:=S3.trans S4;have p4:=p1.ex (S2.trans g);have x4:=x1.trans (af.exB (p:=p) (S2.trans g));refine⟨_,rfl,_,rfl,jw p4 (by decide) (by decide) fun r H5 r0 r1 p5 x5=>?_⟩;have ei:lc≠p:=((p1.ex (S2.trans S3)).nep nc).symm;have kt:∀{a b:Hp},jV a p c->dH p a b->lg a b:=fun{a b} ej e t xs ht=>e _ _ ht fun z=>by
  obtain⟨x,y,ns,q,_⟩:=ej;rw[z,q]at ht;cases ht
 have ek:=x5 _ _ hc ei;have B:=kt p4 x5;obtain⟨t,P,q,m,ds,dt,zz⟩:∃(t:Addr) (P q m:Nat),xO [V.ref t1,.ref t2,.ref t3,.ref t4,.ref t5,.ref t6,.ref t7,.ref t8] r=some (.ref t)/\H5 t=some (.tup [.int (P:Nat),.int (q:Nat),.int (m:Nat)])/\Sz P q m:=by
  have:r=0∨r=1∨r=2∨r=3∨r=4∨r=5∨r=6∨r=7:=by omega
  rcases this with rfl|rfl|rfl|rfl|rfl|rfl|rfl|rfl
  ·exact⟨t1,19,21,400,rfl,B _ _ (g _ _ h1),by decide,by decide,by decide,by decide⟩
  ·exact⟨t2,16,25,401,rfl,B _ _ (g _ _ h2),by decide,by decide,by decide,by decide⟩
  ·exact⟨t3,7,57,400,rfl,B _ _ (g _ _ h3),by decide,by decide,by decide,by decide⟩
  ·exact⟨t4,13,31,404,rfl,B _ _ (g _ _ h4),by decide,by decide,by decide,by decide⟩
  ·exact⟨t5,8,50,201,rfl,B _ _ (S4 _ _ h5),by decide,by decide,by decide,by decide⟩
  ·exact⟨t6,20,20,21,rfl,B _ _ (S4 _ _ h6),by decide,by decide,by decide,by decide⟩
  ·exact⟨t7,3,5,16,rfl,B _ _ (S4 _ _ h7),by decide,by decide,by decide,by decide⟩
  ·exact⟨t8,1,1,2,rfl,B _ _ (S4 _ _ h8),by decide,by decide,by decide,by decide⟩
 refine⟨lc,_,r,_,rfl,rfl,aH.of ek,ds,t,_,rfl,cj.of dt,rfl,_,_,rfl,_,_,rfl,_,_,rfl,rfl,?_⟩;have X5:=x4.trans x5;clear h1 h2 h3 h4 h5 h6 h7 h8 ha hb hc S2 S3 S4 g ef eg nc B ds dt;obtain⟨z0,z1,z2,z3⟩:=id zz;refine⟨_,rfl,p,c,3,rfl,p5,by decide,fun lw ws H6 ok len fr hw p6 x6=>?_⟩;obtain⟨D,C,G,rfl⟩:=Gs len;refine⟨_,rfl,p,c,1,rfl,p6,by decide,fun lv vs H7 du ce el hv p7 x7=>?_⟩;obtain⟨v0,rfl⟩:=Gu ce;have N0:=du.2 v0 b_;refine⟨lv,_,_,_,rfl,rfl,aH.of hv,rfl,_,rfl,v0,rfl,(by have:=N0.hi;exact dB (av (by omega))),?_⟩;have hB:=zh v0 6;generalize pV v0 none (some (6:Int))=base at hB ⊢;have ci:base.cps.toList.length<=6:=by rw[hB,bf];omega
 have dx:∀c∈base.cps.toList,kA c:=fun c hc=>N0.al c (by rw[hB]at hc;exact gj hc);refine⟨_,rfl,_,_,rfl,rfl,_,rfl,_,_,rfl,rfl,_,rfl,by omega,by omega,fun U h3=>?_⟩;refine sv (lo:=0) (n:=(1+(P:Int)+(q:Int)).toNat) (fun i vs Y=>vs=((bO i).map (nI base.cps.toList)).map V.str/\af H7 Y/\Y U=some (.lst vs)) ⟨rfl,af.new h3,aa⟩ (fun i vs Y _ zq=>by obtain⟨_,_,h⟩:=zq;exact h) ?_ ?_;rotate_left
 ·rintro i vs Y hi ⟨rfl,S,hl⟩;refine gN (xY ?_);have fd:i<65:=by omega
  have bl:base.length<=6:=by rw[cx];exact ci
  refine⟨_,rfl,_,rfl,_,rfl,_,_,rfl,rfl,⟨by decide,by decide⟩,_,_,_,rfl,rfl,qA,v7 (by omega) (by omega),_,_,rfl,rfl,(by show base.length+1<=aj;exact dB (av (by omega))),?_⟩;refine⟨_,rfl,_,rfl,_,_,rfl,rfl,(by show(0:Int)<26;decide),_,_,_,rfl,rfl,qA,v7 (by omega) (by omega),_,_,rfl,rfl,(by rw[cx,lf,aL,<-cx];show base.length+1+1<=aj;exact dB (av (by omega))),?_⟩;have e1:((0+(i:Int)) / 26).toNat=i / 26:=by omega
  have e2:((0+(i:Int)) % 26).toNat=i % 26:=by omega
  have en:base++(⟨#[97+i / 26]⟩:Str)++(⟨#[97+i % 26]⟩:Str)=nI base.cps.toList i:=by
   refine Ag ?_;rw[lf,lf];simp[nI]
  rw[e1,e2,en];refine⟨hl,by rw[ao,ao,j3];exact av (by omega),AC hi ⟨?_,fun b o q=>?_,aa⟩⟩
  ·rw[List.range_succ,aD,aD];rfl
  ·rw[ah (ae q h3)];exact S _ _ q
 rintro vs H8 ⟨rfl,S8,g8⟩;rw[show(1+(P:Int)+(q:Int)).toNat=1+P+q by omega]at g8;have p8:=p7.ex S8;have nw:=p6.ne_strs hw;have ab:=S8 _ _ (x7 _ _ hw nw);have X8:=((X5.trans x6).trans x7).trans (af.exB (p:=p) S8);have room:∀{j},j<1+P+q->(((bO (1+P+q)).map (nI base.cps.toList)).map V.str)[j]?=some (.str (nI base.cps.toList j)):=fun h=>by rw[cX,EW h];rfl
 have RG:∀{b l w:Nat}{O:Sg},b<q->((O=aV D/\w=3)∨(O=dD G/\w=2))->Rg [D,C] [G] ((bO (1+P+q)).map (nI base.cps.toList)) (tH (nI base.cps.toList) P q b l O (aV C)) m w:=fun bq hs=>He dx ci zz bq ok hs;generalize nI base.cps.toList=ρ at g8 room RG;clear hv du ce el x7 p7 S8 hB ci dx N0 h3 x6 fr p6 hw nw;refine⟨_,rfl,lw,_,_,_,rfl,rfl,aH.of ab,rfl,(by show 2<=aj;decide),fun sa na=>?_⟩;have Sa:af H8 (upd H8 sa (.tup [.str "ask",.str D])):=af.new na;have ha:upd H8 sa (.tup [.str "ask",.str D]) sa=some (.tup ((aV D).map V.str)):=aa;generalize upd H8 sa (.tup [.str "ask",.str D])=H9 at Sa ha ⊢;refine⟨_,rfl,lw,_,_,_,rfl,rfl,aH.of (Sa _ _ ab),rfl,(by show 2<=aj;decide),fun sb nb=>?_⟩;have Sb:af H9 (upd H9 sb (.tup [.str "say",.str G])):=af.new nb;have hb:upd H9 sb (.tup [.str "say",.str G]) sb=some (.tup ((dD G).map V.str)):=aa;generalize upd H9 sb (.tup [.str "say",.str G])=aX at Sb hb ⊢;refine⟨(by show 2<=aj;decide),fun lq nq=>?_⟩;have Sq:af aX (upd aX lq (.lst [.ref sa,.ref sb])):=af.new nq;have hq:upd aX lq (.lst [.ref sa,.ref sb]) lq=some (.lst [.ref sa,.ref sb]):=aa;have dy:=(p8.ex (Sa.trans Sb)).nep nq;have a0:=(Sa.trans Sb).trans Sq;generalize upd aX lq (.lst [.ref sa,.ref sb])=fi at Sq hq a0 ⊢;have ck:=p8.ex a0;refine⟨_,rfl,jw ck (by decide) (by decide) fun r2 em fl fn cl a4=>?_⟩;have cm:=kt ck a4;obtain⟨s,O,w,dK,hs,dT⟩:∃(s:Addr) (O:Sg) (w:Nat),xO [V.ref sa,V.ref sb] r2=some (.ref s)/\em s=some (.tup (O.map V.str))/\((O=aV D/\w=3)∨(O=dD G/\w=2)):=by
  have:r2=0∨r2=1:=by omega
  rcases this with rfl|rfl
  ·exact⟨sa,_,3,rfl,cm _ _ (Sq _ _ (Sb _ _ ha)),.inl ⟨rfl,rfl⟩⟩
  ·exact⟨sb,_,2,rfl,cm _ _ (Sq _ _ hb),.inr ⟨rfl,rfl⟩⟩
 refine⟨lq,_,_,_,rfl,rfl,aH.of (a4 _ _ hq dy.symm),dK,?_⟩;refine⟨_,rfl,jw cl (by decide) (by decide) fun f0 fp ep fv cn J=>⟨_,_,rfl,rfl,?_⟩⟩;obtain⟨f1,rfl⟩:=jZ ep;refine⟨_,rfl,_,_,rfl,rfl,_,rfl,_,rfl,jw cn (by omega) (by omega) fun b0 an er fw es L=>⟨_,_,rfl,rfl,?_⟩⟩;obtain⟨b,rfl⟩:=jZ er;have bq:b<q:=by omega
 have T:=((af.exB (p:=p) a0).trans a4).trans (J.trans L);have ap:=T _ _ g8 (p8.ne_strs g8);have dV:=T _ _ ab (p8.ne_strs ab);have d0:=kt cn L _ _ (kt cl J _ _ hs);have et:=X8.trans T;clear ha hb hq Sa Sb Sq a0 ck a4 cl J cn L T na nb nq dy cm dK hs g8 ab X8 p8;refine⟨_,rfl,U,_,_,_,rfl,rfl,aH.of ap,cM (j:=0) (room (by omega)),(by show 1<=aj;decide),fun u1 eu=>?_⟩;have a5:af an (upd an u1 (.tup [.str "still"])):=af.new eu;have a1:SignAt (upd an u1 (.tup [.str "still"])) u1 aA:=aa;generalize upd an u1 (.tup [.str "still"])=a6 at a5 a1 ⊢;refine⟨_,rfl,U,_,_,_,rfl,rfl,aH.of (a5 _ _ ap),cM (j:=1) (room (by omega)),(by show 3<=aj;decide),fun e1 ev=>?_⟩;have a7:af a6 (upd a6 e1 (.tup [.str (ρ 0),.ref u1,.str (ρ 1)])):=af.new ev;have d1:ii (upd a6 e1 (.tup [.str (ρ 0),.ref u1,.str (ρ 1)])) e1 ⟨ρ 0,aA,ρ 1⟩:=⟨u1,aa,a7 _ _ a1⟩;generalize upd a6 e1 (.tup [.str (ρ 0),.ref u1,.str (ρ 1)])=a8 at a7 d1 ⊢;have d3:=a7 _ _ (a5 _ _ ap);refine⟨_,rfl,U,_,_,_,rfl,rfl,aH.of d3,cM (j:=0) (room (by omega)),(by show 1<=aj;decide),fun u2 ey=>?_⟩;have a9:af a8 (upd a8 u2 (.tup [.str "still"])):=af.new ey;have a2:SignAt (upd a8 u2 (.tup [.str "still"])) u2 aA:=aa;generalize upd a8 u2 (.tup [.str "still"])=bd at a9 a2 ⊢;refine⟨_,rfl,_,rfl,U,_,_,_,rfl,rfl,aH.of (a9 _ _ d3),cM (j:=1+P+b) (room (by omega)),(by show 3<=aj;decide),fun e2 eC=>?_⟩;have bi:af bd (upd bd e2 (.tup [.str (ρ 0),.ref u2,.str (ρ (1+P+b))])):=af.new eC;have d2:ii (upd bd e2 (.tup [.str (ρ 0),.ref u2,.str (ρ (1+P+b))])) e2 ⟨ρ 0,aA,ρ (1+P+b)⟩:=⟨u2,aa,bi _ _ a2⟩;generalize upd bd e2 (.tup [.str (ρ 0),.ref u2,.str (ρ (1+P+b))])=as at bi d2 ⊢;have eH:dv as [e1,e2] (kE ρ P b):=.cons (d1.kt (af.kt (a9.trans bi))) (.cons d2 .nil);have ch:=((a5.trans a7).trans a9).trans bi;refine⟨(by show 2<=aj;decide),fun f nf=>?_⟩;have co:af as (upd as f (.lst [.ref e1,.ref e2])):=af.new nf;have hf:upd as f (.lst [.ref e1,.ref e2]) f=some (.lst ([e1,e2].map V.ref)):=aa;generalize upd as f (.lst [.ref e1,.ref e2])=bm at co hf ⊢;have v:∀{b:Addr}{o:HO},an b=some o->b≠f:=fun e=>ae (ch _ _ e) nf;refine⟨_,rfl,(by show 2<=aj;decide),fun i1 cs=>?_⟩;have bn:af bm (upd bm i1 (.tup [.int 1,.int (P:Nat)])):=af.new cs;have b1:upd bm i1 (.tup [.int 1,.int (P:Nat)]) i1=some (.tup [.int 1,.int (P:Nat)]):=aa;generalize upd bm i1 (.tup [.int 1,.int (P:Nat)])=bz at bn b1 ⊢;refine⟨_,rfl,_,_,rfl,rfl,_,rfl,(by show 2<=aj;decide),fun i2 ct=>?_⟩;have bI:af bz (upd bz i2 (.tup [.int (1+(P:Int)),.int (q:Nat)])):=af.new ct;have b2:upd bz i2 (.tup [.int (1+(P:Int)),.int (q:Nat)]) i2=some (.tup [.int ((1+P:Nat):Int),.int (q:Nat)]):=aa;generalize upd bz i2 (.tup [.int (1+(P:Int)),.int (q:Nat)])=bS at bI b2 ⊢;refine⟨(by show 2<=aj;decide),fun lo cB=>?_⟩;have b3:af bS (upd bS lo (.lst [.ref i1,.ref i2])):=af.new cB;have cC:upd bS lo (.lst [.ref i1,.ref i2]) lo=some (.lst [.ref i1,.ref i2]):=aa;generalize upd bS lo (.lst [.ref i1,.ref i2])=d5 at b3 cC ⊢;have M:=(bn.trans bI).trans b3;have d:=(ch.trans co).trans M;have d7:lo≠f:=fun z=>by rw[z,(bn.trans bI) _ _ hf]at cB;cases cB
 have c1:=b3 _ _ (bI _ _ b1);have c2:=b3 _ _ b2;have eS:i1≠f:=fun z=>by rw[z,hf]at cs;cases cs
 have eY:i2≠f:=fun z=>by rw[z,bn _ _ hf]at ct;cases ct
 have e0:=M _ _ hf;have e3:=eH.kt (af.kt (co.trans M));have c0:=d _ _ ap;have c3:=d _ _ dV;have c4:=d _ _ d0;have c5:=v ap;have dc:=v dV;have dd:=v d0;obtain⟨l,d8⟩:∃l:Nat,1+f1=l:=⟨_,rfl⟩;refine⟨lo,rfl,⟨_,aH.of cC⟩,?_⟩;show ∃W:Nat->Nat->L2.St->Hp->Prop,(∃m',W 0 m' [some (.ref p),some (.ref lc),some (.int (P:Nat)),some (.int (q:Nat)),some (.int (m:Nat)),some (.ref lw),some (.str "abcdefghijklmnopqrstuvwxyz"),some (.str base),some (.ref U),some (.ref s),some (.int ((1+f1:Nat):Int)),some (.int (1+(P:Int)+(b:Nat))),some (.ref f),none,none,none] d5)/\_;rw[d8];refine fk (K:=K) (xs:=[.ref i1,.ref i2]) (fun i σ Y=>NE4 fun(J L N:Option V) (ts:Ze)=>NA4 (σ=[some (.ref p),some (.ref lc),some (.int (P:Nat)),some (.int (q:Nat)),some (.int (m:Nat)),some (.ref lw),some (.str "abcdefghijklmnopqrstuvwxyz"),some (.str base),some (.ref U),some (.ref s),some (.int (l:Nat)),some (.int (1+(P:Int)+(b:Nat))),some (.ref f),J,L,N]) (dH f d5 Y) (Y f=some (.lst (ts.map V.ref))) (dv Y ts (kE ρ P b++(if i=0 then[]else e_ ρ O (aV C) l 1 P P++if i=1 then[]else e_ ρ O (aV C) l (1+P) q q))))
  ⟨_,_,_,[e1,e2],rfl,.refl _ _,e0,by rw[if_pos rfl,cp];exact e3⟩ (fun i σ Y _ zq=>by obtain⟨_,_,_,_,_,e,_⟩:=zq;exact aH.of (e _ _ cC d7)) ?_ ?_
 ·rintro i x σ Y hx ⟨J,L,N,ts,rfl,ex,b4,D'⟩
  match i,hx with
  |0,hx =>
   cases hx;refine⟨i1,_,rfl,cj.of (ex _ _ c1 eS),rfl,_,_,rfl,_,_,rfl,rfl,?_⟩;rw[if_pos rfl,cp]at D';refine Ai (a:=1) (size:=P) c3 dc c0 c5 c4 dd (by omega) z0 (by omega) ex b4 D' (by show 2<=500;decide) fun N di Y dm aC dn=>⟨_,_,N,di,rfl,dm,aC,?_⟩;rw[if_neg (by decide),if_pos rfl,cp];exact dn
  |1,hx =>
   cases hx;refine⟨i2,_,rfl,cj.of (ex _ _ c2 eY),rfl,_,_,rfl,_,_,rfl,rfl,?_⟩;rw[if_neg (by decide),if_pos rfl,cp]at D';refine Ai (a:=1+P) (size:=q) c3 dc c0 c5 c4 dd (by omega) z1 (by omega) ex b4 D' (by rw[aL,jf];show 2+_<=500;omega) fun N di Y dm aC dn=>⟨_,_,N,di,rfl,dm,aC,?_⟩;rw[if_neg (by decide),if_neg (by decide),<-g6];exact dn
 rintro σ I ⟨J,L,N,ts,rfl,ex,b4,D'⟩;have D':dv I ts (kE ρ P b++(e_ ρ O (aV C) l 1 P P++e_ ρ O (aV C) l (1+P) q q)):=D';rw[<-g6]at D';have D':dv I ts (tH ρ P q b l O (aV C)):=D';have e4:=ex _ _ c0 c5;have ea:=ex _ _ c3 dc;have e5:=ex _ _ c4 dd;have e6:dH p H I:=fun b o e n=>by
  have eb:=et _ _ e n;exact ex _ _ (d _ _ eb) (v eb)
 have e7:jV I p c:=by
  obtain⟨a,r,ns,q1,q2,q3,q4⟩:=es;exact⟨a,r,ns,ex _ _ (d _ _ q1) (v q1),ex _ _ (d _ _ q2) (v q2),q3,q4⟩
 refine⟨_,rfl,_,rfl,lw,_,rfl,aH.of ea,fun l1 n1=>?_⟩;have e8:lE ([D,C,G].map V.str) none (some 2)=[D,C].map V.str:=AV [D,C,G] 2;rw[e8];have g:af I (upd I l1 (.lst ([D,C].map V.str))):=af.new n1;have q1:upd I l1 (.lst ([D,C].map V.str)) l1=some (.lst ([D,C].map V.str)):=aa;generalize upd I l1 (.lst ([D,C].map V.str))=b5 at g q1 ⊢;refine⟨_,rfl,_,rfl,lw,_,rfl,aH.of (g _ _ ea),fun l2 n2=>?_⟩;have e9:lE ([D,C,G].map V.str) (some 2) none=[G].map V.str:=BN [D,C,G] 2;rw[e9];have dp:af b5 (upd b5 l2 (.lst ([G].map V.str))):=af.new n2;have q2:upd b5 l2 (.lst ([G].map V.str)) l2=some (.lst ([G].map V.str)):=aa;generalize upd b5 l2 (.lst ([G].map V.str))=b6 at dp q2 ⊢;refine⟨_,rfl,_,rfl,(by show 4<=aj;decide),fun tt fa=>?_⟩;have b7:af b6 (upd b6 tt (.tup [.ref l1,.ref l2,.ref U,.ref f])):=af.new fa;have q3:upd b6 tt (.tup [.ref l1,.ref l2,.ref U,.ref f]) tt=some (.tup [.ref l1,.ref l2,.ref U,.ref f]):=aa;generalize upd b6 tt (.tup [.ref l1,.ref l2,.ref U,.ref f])=b8 at b7 q3 ⊢;refine⟨_,rfl,(by show 2<=aj;decide),fun l5 n5=>?_⟩;have aN:af b8 (upd b8 l5 (.lst [.int 3,.int 2])):=af.new n5;have q5:upd b8 l5 (.lst [.int 3,.int 2]) l5=some (.lst [.int 3,.int 2]):=aa;generalize upd b8 l5 (.lst [.int 3,.int 2])=aT at aN q5 ⊢;have A:=((g.trans dp).trans b7).trans aN;have fc:BS aT tt l1 l2 U f ts [D,C] [G] ((bO (1+P+q)).map ρ) (tH ρ P q b l O (aV C)):=⟨aN _ _ q3,(dp.trans (b7.trans aN)) _ _ q1,(b7.trans aN) _ _ q2,A _ _ e4,A _ _ b4,D'.kt (af.kt A)⟩;have ec:∀(u:Addr) (ww:Nat),ww=w->aT u=none->Q (.ref u) (upd aT u (.tup [.ref tt,.int (m:Nat),.int (ww:Nat)])):=fun u ww e nu=>by
  subst e;have dr:af aT (upd aT u (.tup [.ref tt,.int (m:Nat),.int (ww:Nat)])):=af.new nu;exact k u tt l1 l2 U f ts _ _ _ _ m ww _ aa (fc.same dr) (RG bq dT) (e7.ex (A.trans dr)) (e6.trans (af.exB (A.trans dr)))
 have ed:=A _ _ e5;rcases dT with⟨rfl,ew⟩|⟨rfl,ew⟩
 ·exact⟨_,rfl,s,_,_,_,rfl,rfl,cj.of ed,rfl,rfl,.inr ⟨_,rfl,l5,_,_,_,rfl,rfl,aH.of q5,rfl,(by show 3<=aj;decide),fun u nu=>ec u 3 ew.symm nu⟩⟩
 ·exact⟨_,rfl,s,_,_,_,rfl,rfl,cj.of ed,rfl,rfl,.inr ⟨_,rfl,l5,_,_,_,rfl,rfl,aH.of q5,rfl,(by show 3<=aj;decide),fun u nu=>ec u 2 ew.symm nu⟩⟩
def HS(n:Int):DT:=.k (.inl n)
theorem FQ{K:Za}{H:Hp}(n:Int):lH K H (HS n) (.int n):=by unfold HS lH;rfl
structure WX(K:Za)(Ct Cb Cm Cr:Addr):Prop where
 ex:HZ K Ct
 self:uR K (.ref Ct) (.ref Ct)=some true
 i1:gC K (.ref Ct) (.ref Cb)=some true
 i2:gC K (.ref Ct) (.type "ValueError")=some true
 i3:gC K (.ref Ct) (.ref Cm)=some false
 i4:gC K (.ref Ct) (.ref Cr)=some false
inductive sp_law16(K:Za)(vs:List V)(H:Hp)(Q:VK)(E:XK):Prop
 |mk (a:Addr) (ns:List Int):(vs=[.ref a])->(aH K H a (ns.map V.int))->(ns.length<=63)->(∀H',Q (.bl true) H')->sp_law16 K vs H Q E
def yW(K:Za):TS :=
 aw (dw (bX (aJ CH V3 (tC (.int 400)))) (bc (iz (Ci V9) (iz (aJ (Gh K) FU (eL (aG (tC (.bl true)) (dR (tC (.bl true)) (tC (.bl false)) (tC (.bl false)))))) (bG (iA K 2) (aM Fh (tC (.str "wide"))))))) (bD))
 (bc (iz (db (h9 K) (aM V9 (tC (.ty "list")))) (iz (aJ EE (db (f8 K) (aK V9)) V3) (bG (iA K 2) (aM Fh V7)))))
def Gx(K:Za)(C Ct:Addr):TS :=
 aw (a_ (tC .non) Hy)
 (aw (Ek (t_ (fun W=>rN (f6 K C Ct) [] W (aM V5 V6)) 12) (Ge K Ct (a_ (tC (.str "wide")) Hy) (El))) (yW K))
theorem Dv{K:Za}{H:Hp}{Q:VK}{m:Nat}{lk:Addr}{e f g h i j l n a:Option V}(r:400<m)(o:H lk=some (.lst ([true,true,false,false].map V.bl)))(k:∀d,Q (.bl true) d):
  yW K (bJ Q) [e,f,g,some (.int (m:Nat)),h,i,j,l,n,some .non,some (.ref lk),a,some (.str "wide")] H:=by
 refine⟨_,rfl,_,_,rfl,rfl,_,rfl,?_⟩;refine GB (P:=True) (by simp;omega) (fun _=>?_) (fun z=>(z trivial).elim);refine⟨_,rfl,_,rfl,cZ ?_⟩;refine⟨_,rfl,(by show 4<=aj;decide),fun q p=>?_⟩;have S:af H (upd H q (.lst [.bl true,.bl true,.bl false,.bl false])):=af.new p;refine⟨lk,q,[true,true,false,false],[true,true,false,false],rfl,rfl,aH.of (S _ _ o),aH.of aa,_,rfl,?_⟩;rw[zzr1 rfl];refine cZ ?_;refine⟨_,rfl,.inl ⟨_,_,.k (.inr "wide"),.k (.inr "wide"),rfl,rfl,rfl,(by show 0<=2;decide),(by show 0<=2;decide),fun d _=>?_⟩⟩;rw[zzr1 rfl];exact k _
theorem Fa{K:Za}{H:Hp}{Q:VK}{m:Nat}{l:Addr}{qs:Ze}{d:Int}{h i j n o p q a e:Option V}(r:m<=400)(f:H l=some (.lst (qs.map V.ref)))(len:qs.length=m)(k:∀g,Q (.bl true) g):
  yW K (bJ Q) [h,i,j,some (.int (m:Nat)),n,o,p,some (.int d),q,some (.ref l),a,e,some (.int d)] H:=by
 refine⟨_,rfl,_,_,rfl,rfl,_,rfl,?_⟩;refine GB (P:=False) (by simp;omega) (fun z=>z.elim) (fun _=>?_);refine⟨_,rfl,.ref l,"list",_,true,rfl,.inl (gg.lst f),rfl,_,rfl,cZ ?_⟩;refine⟨_,rfl,.inl ⟨l,_,rfl,.inl (aH.of f),_,rfl,rfl,_,rfl,?_⟩⟩;rw[ao,len,zzr1 rfl];refine cZ ?_;refine⟨_,rfl,_,rfl,.inl ⟨_,_,HS d,HS d,rfl,FQ _,FQ _,(by show 0<=2;decide),(by show 0<=2;decide),fun g _=>?_⟩⟩;rw[zzr1 rfl];exact k _
theorem Cp{a d rooms:Zb}{e:List au}{m w:Nat}(R:Rg a d rooms e m w){fs:List (List Str)}(f:fs.Nodup)(h:∀g,g∈fs↔mT a d rooms e g):fs.length=m:=by
 obtain⟨ρ,p,q,b,i,n,o,s,t,r,j,k,l,_⟩:=R.ring;rw[l];exact r.many j k f h
theorem Aj{a d rooms:Zb}{e:List au}{m w:Nat}(R:Rg a d rooms e m w){L:List (List Str)}{f:Zb}(i:L.Nodup)(len:L.length=400)(j:f∉L)(hf:mT a d rooms e f)(h:∀g∈L,mT a d rooms e g):400<m:=by
 obtain⟨ρ,p,q,b,k,s,t,u,v,r,l,n,o,_⟩:=R.ring;rw[o];exact r.wide l n i len j hf h
theorem Cq{a d rooms:Zb}{e:List au}{m w:Nat}(R:Rg a d rooms e m w)(n:Nat):cntF a d rooms e n=(w:Int) ^ n:=by
 obtain⟨ρ,p,q,b,f,j,k,l,o,r,g,h,_,i⟩:=R.ring;exact r.count g h i n
theorem Cu{K:Za}{C d Cb Cm Cr x:Addr}(X:WX K d Cb Cm Cr){H:Hp}{Q:VK}{m w n:Nat}{g h rooms:Zb}{i:List au}(R:Rg g h rooms i m w)(M:bw C H x g h rooms i)(s:n<=1000){j:V}{lk:Addr}{t u v y A o p:Option V}
  (hf:(j=.non/\400<m/\H lk=some (.lst ([true,true,false,false].map V.bl)))∨∃(l:Addr) (qs:Ze),j=.ref l/\m<=400/\H l=some (.lst (qs.map V.ref))/\qs.length=m) (k:∀q,Q (.bl true) q) :
  Gx K C d (bJ Q) [t,u,v,some (.int (m:Nat)),y,some (.ref x),some (.int (n:Nat)),some (.int ((w:Int) ^ n)),A,some j,some (.ref lk),o,p] H:=by
 refine⟨_,rfl,_,rfl,x,n,g,h,rooms,i,rfl,M,(fun f L e q r len B D E S G I=>?_),s,fun fs q r len J S=>?_⟩
 ·have N:=Aj R r len B D E;refine⟨d,true,rfl,X.self,cZ ?_⟩;rcases hf with⟨rfl,_,a⟩|⟨l,qs,rfl,z,_,_⟩
  ·exact Dv N (S _ _ a) k
  ·omega
 ·have few:=Cp R r J;rw[Cq R n];rcases hf with⟨rfl,z,a⟩|⟨l,qs,rfl,z,a,O⟩
  ·omega
  ·exact Fa z (S _ _ a) O k
theorem Cz{K:Za}{C d Cb Cm Cr:Addr}(X:WX K d Cb Cm Cr){B:List V}{H:Hp}{Q:VK}{E:XK}(h:sp_law16 K B H Q E):Ej K (iA K 2) (f6 K C d) d (iD K C d) Cr Cm Cb jx (jz C) qh (qi K) (bJ Q) (start A0 B) H:=by
 obtain⟨a,M,rfl,N,O,k⟩:=h;refine⟨_,rfl,a,M,rfl,N,O,fun p c H1 _ U S1=>?_⟩;refine⟨_,rfl,p,c,rfl,U,fun u t Y l2 l3 l4 ts D G rooms I m w H2 hu T R p2 x2=>?_⟩;refine⟨u,_,rfl,cj.of hu,rfl,_,_,rfl,_,_,rfl,_,_,rfl,rfl,?_⟩;refine⟨_,rfl,t,Y,l2,l3,l4,ts,D,G,rooms,I,rfl,T,R.ok,fun x H3 M3 S3=>?_⟩;have J:=p2.ex S3;refine⟨_,rfl,jw J (by decide) (by decide) fun n0 H4 q ab p4 x4=>?_⟩;obtain⟨n,rfl⟩:=jZ q;have r:=M3.ex J x4;have w3:w<=3:=by
  obtain⟨_,_,_,_,_,_,_,_,_,_,_,_,_,hw⟩:=R.ring;rcases hw with⟨_,e⟩|⟨_,e⟩<;>omega
 refine⟨_,rfl,(n:Int),rfl,by omega,by omega,?_⟩;refine k7 (lo:=0) (n:=((n:Int)).toNat) (fun i σ j=>∃s:Option V,(σ=[some (.ref a),some (.ref p),some (.ref t),some (.int (m:Nat)),some (.int (w:Nat)),some (.ref x),some (.int (n:Nat)),some (.int ((w:Int) ^ i)),s,none,none,none,none])/\j=H4) ⟨_,by rw[Int.pow_zero];rfl,rfl⟩ ?_ ?_
 ·rintro i σ j hi ⟨s,rfl,rfl⟩;refine⟨_,rfl,_,rfl,_,_,rfl,rfl,.inr ⟨by omega,by omega⟩,some (.int (0+(i:Int))),?_,rfl⟩;rw[Int.pow_succ];rfl
 ·rintro σ j ⟨s,rfl,rfl⟩;rw[eW];refine⟨(by show 0<=aj;decide),fun lk v=>?_⟩;have o:af j (upd j lk (.lst [])):=af.new v;generalize upd j lk (.lst [])=H5 at o ⊢;refine⟨_,rfl,x,D,G,rooms,I,rfl,r.same o,(fun f L e y z len nf rf rl S al g=>?_),fun l qs fs y hl _ hq z len hh S=>?_⟩
  ·have wd:=Aj R z len nf rf rl;refine⟨d,e,true,rfl,rfl,X.self,cZ ?_⟩;refine⟨_,rfl,e,d,none,_,_,_,rfl,.inl ⟨_,rfl,rfl⟩,g,.inl rfl,X.ex,X.i1,_,rfl,e,d,none,_,_,_,rfl,.inr ⟨_,rfl,rfl⟩,g,.inl rfl,X.ex,X.i2,_,rfl,e,d,none,_,_,_,rfl,.inl ⟨_,rfl,rfl⟩,g,.inl rfl,X.ex,X.i3,_,rfl,e,d,none,_,_,_,rfl,.inl ⟨_,rfl,rfl⟩,g,.inl rfl,X.ex,X.i4,(by show 4<=aj;decide),fun lq A=>?_⟩;have S6:af y (upd y lq (.lst [.bl true,.bl true,.bl false,.bl false])):=af.new A;exact Cu (Cb:=Cb) (Cm:=Cm) (Cr:=Cr) X R (((r.same o).same S).same S6) (by omega) (.inl ⟨rfl,wd,aa⟩) k
  ·have few:=Cp R z hh;exact Cu (Cb:=Cb) (Cm:=Cm) (Cr:=Cr) X R ((r.same o).same S) (by omega) (.inr ⟨l,qs,rfl,by omega,hl,by omega⟩) k
structure XC(K:Za)(Cx:Addr):Prop where
 cls:v9 K Cx
 p:cG K Cx "part"
 n:cG K Cx "number"
 self:uR K (.ref Cx) (.ref Cx)=some true
open Classical in
theorem XX.upk{K:Za}{d:Str->Option Value}{x:Str}{C a:Addr}(h:XX K d x C a)(g:XO K a fI):gC K (.ref C) (.ref a)=some true:=by
 unfold gC;split
 ·rfl
 ·rw[h.o.kitC g,eR,eR,jA,jA];simp
theorem G7{K:Za}{i:Str->Option Value}{j k l:Str}{a Cx f g h:Addr}(d:XX K i j f a)(m:XX K i k g a)(n:XX K i l h a)(xt:XO K a fI)(o:XG K)(p:[a,Cx,f,g,h].Nodup):WX K f a g h:=by
 have q:f≠a/\g≠a/\h≠a/\g≠f/\h≠f:=by
  refine⟨?_,?_,?_,?_,?_⟩<;>(intro e;simp[e]at p)
 obtain⟨r,s,t,u,v⟩:=q;exact⟨d.exk o,by rw[d.exm d r,zzr1 rfl],XX.upk d xt,d.ve,by rw[d.is m s,zzr0 u],by rw[d.is n t,zzr0 v]⟩
def ja(i:Nat):Stmt:=PySem.Challenge.pw_mumtrial_k16_wide.main.body.getD i (.Pass ⟨0,0,0,0⟩)
local macro_rules | `(tactic| walk_at "s")=>`(tactic| exact⟨rfl,rfl,rfl,by decide +kernel,rfl,by decide +kernel,by decide +kernel⟩)
local macro_rules | `(tactic| walk_at "l")=>`(tactic| (intro _ _ _ _ h;first|exact len_h h|exact len_g h|(cases h;subst_vars;rfl)|(obtain⟨_,_,h,_⟩:=h;subst h;rfl)|((repeat obtain⟨_,h⟩:=h);subst_vars;rfl)))
theorem zzlS{d:List Value}{n:Nat}(h:d.length=n+1):∃ a t,d=a::t∧t.length=n:=by
  cases d with
  |nil=>cases h
  |cons a t=>exact⟨a,t,rfl,Nat.succ.inj h⟩
local macro_rules | `(tactic| walk_at "b")=>`(tactic| (intro _ _ _ _ _ _ us hl;(repeat (have h:=zzlS hl;clear hl;obtain⟨_,_,e,hl⟩:=h;subst e));cases List.eq_nil_of_length_eq_zero hl;rfl))
def HG(K:Za)(x qual:Str)(st:Stmt)(f:Addr):Prop:=∃(oc:Value) (od an:Option Addr) (sl:Array (Option Value)) (kV dc pm cd ct:Value),
 K.lookup f=some ⟨oc,od,.func (hU x qual (gP st) (eh st) (aY st) .none kV dc pm an cd ct),sl⟩/\lZ K cd qual=true/\dh K (.ref f)=true
theorem Dt{K:Za}{x a:Str}{st:Stmt}{f:Addr}{d:Value}{e g:Option Addr}{h:Array (Option Value)}{kV i j cd m:Value}(l:K.lookup f=some ⟨d,e,.func (hU x a (gP st) (eh st) (aY st) .none kV i j g cd m),h⟩)
  (c:lZ K cd a=true) (k:dh K (.ref f)=true):HG K x a st f:=⟨d,e,g,h,kV,i,j,cd,m,l,c,k⟩
def lP(K:Za)(x:Str)(st:Stmt):Prop:=∃f,bo K ba x=some (some (.ref f))/\HG K x x st f
theorem fnG_mk{K:Za}{x:Str}{st:Stmt}{f:Addr}{d:Value}{e g:Option Addr}{h:Array (Option Value)}{kV i j cd m:Value}(a:bo K ba x=some (some (.ref f)))(l:K.lookup f=some ⟨d,e,.func (hU x x (gP st) (eh st) (aY st) .none kV i j g cd m),h⟩)
  (c:lZ K cd x=true) (k:dh K (.ref f)=true):lP K x st:=⟨f,a,Dt l c k⟩
def zK(K:Za)(C:Addr)(m qual:Str)(st:Stmt):Prop:=∃f,aR K (.ref C) m=some (some (.ref f))/\wm K (.ref f)=true/\HG K m qual st f
theorem fnM_mk{K:Za}{C:Addr}{m d:Str}{st:Stmt}{f:Addr}{e:Value}{g h:Option Addr}{j:Array (Option Value)}{kV n o cd p:Value}(a:aR K (.ref C) m=some (some (.ref f)))(i:wm K (.ref f)=true)
  (l:K.lookup f=some ⟨e,g,.func (hU m d (gP st) (eh st) (aY st) .none kV n o h cd p),j⟩) (c:lZ K cd d=true) (k:dh K (.ref f)=true):zK K C m d st:=⟨f,a,i,Dt l c k⟩
theorem HG.fun_{K:Za}{x a:Str}{st:Stmt}{f:Addr}(T:HG K x a st f):∃d,FY K x a st f d:=by
 obtain⟨e,g,h,i,kV,j,m,cd,n,l,c,k⟩:=T;exact⟨_,Dn (st:=st) l c k⟩
def Hc:Sp:=fun _ _ _ _=>False
theorem Hn{P:aU}{w:World}{K:Za}{a:Str->Option Value}{base:Heap}{k:Nat}{f:Addr}{d:eX}{e:Zb}:ig P w K a base CX0 k f d e Hc:=⟨fun _ _ _ _ h=>h.elim,fun _ _ _ _ _ _ _ _ _ _ _ _ _ h=>h.elim⟩
def GJ(K:Za)(a:Addr)(ws:Zb):Prop:=∀H,cj K H a (ws.map V.str)
theorem Ab{K:Za}{a:Addr}{f:Zb}{o:Obj}{e:Array Value}{n:Nat}(l:K.lookup a=some o)(c:o.cls=.type "tuple")(d:o.data=.seq e n)(z:e.size<=aj)(v:aP (f.map V.str) e.toList):GJ K a f :=
 fun _=>.inr ⟨o,e,n,l,c,d,z,v⟩
section
variable{P:aU}{w:World}{K:Za}{mg:Str->Option Value}{base h:Heap}{C:Addr}{x qual:Str}{st:Stmt}{N ps:Zb}{k:Nat}{sp:Sp}
abbrev uF(ps:Zb)(sp:Sp):Prop:=∀vs H Q E,sp vs H Q E->vs.length=ps.length
abbrev BodyOk(CX:BX)(P:aU)(w:World)(K:Za)(mg:Str->Option Value)(base:Heap)(qual:Str)(st:Stmt)(N:Zb)(k:Nat)(sp:Sp)(nox:Cx->Cx):Prop:=N.Nodup->∀(f:Addr) (cdv:Value) (A:Around) (outer:List Env) (s:Shared) (H:Hp) (vs:List V) (Q:VK) (E:XK),cV k (A.deeper (envOfC qual (aY st) s.heap.objs.size f cdv))->(A.deeper (envOfC qual (aY st) s.heap.objs.size f cdv)).units+16<cLine->sp vs H Q E ->
 ∃t,uE (nox (tG CX P w K mg base N qual (aY st) f cdv A outer s H E)) (eh st) t/\t (bJ Q) (start N vs) H
abbrev pp(x qual:Str)(st:Stmt)(ps:Zb):Prop:=∀(kV doc pm:Value) (an:Option Addr) (cdv ct:Value) (us:Zf),us.length=ps.length->bindArgs (hU x qual (gP st) (eh st) (aY st) .none kV doc pm an cdv ct) ⟨us,[]⟩=pure (ps.zip us)
theorem dG(X:K.In h)(G:h.Ns ba mg)(T:lP K x st)(b:BodyOk CX0 P w K mg base x st N k sp Cx.nox)(g:pp x x st ps)(S:fo N ps (aY st):=by walk_at "s")(l:uF ps sp:=by walk_at "l"):lQ P w K mg base x ps (k+1) sp:=by
 obtain⟨f,a,t⟩:=T;obtain⟨i,F⟩:=t.fun_;exact⟨f,i,F.ok S l fun d A outer s H j Q E e h=>b S.nd f d A outer s H j Q E e (sj e) h,cP X G a,F.kp,F.binds g⟩
theorem dM(g:xV K C)(T:zK K C x qual st)(b:BodyOk CX0 P w K mg base qual st N k sp Cx.nox)(j:pp x qual st ps)(S:fo N ps (aY st):=by walk_at "s")(l:uF ps sp:=by walk_at "l"):DQ P w K mg base C x ps (k+1) sp:=by
 obtain⟨f,a,i,t⟩:=T;obtain⟨m,F⟩:=t.fun_;exact⟨f,m,F.ok S l fun d A outer s H n Q E e h=>b S.nd f d A outer s H n Q E e (sj e) h,g,⟨a,i,F.kp⟩,F.binds j⟩
theorem dMX(g:xV K C)(T:zK K C x qual st)(b:BodyOk (BY P w K) P w K mg base qual st N k sp id)(j:pp x qual st ps)(S:fo N ps (aY st):=by walk_at "s")(l:uF ps sp:=by walk_at "l"):Fl P w K mg base C x ps (k+1) sp:=by
 obtain⟨f,a,i,t⟩:=T;obtain⟨m,F⟩:=t.fun_;exact⟨f,m,F.okX S l fun d A outer s H n Q E e h=>b S.nd f d A outer s H n Q E e (sj e) h,g,⟨a,i,F.kp⟩,F.binds j⟩
theorem dN{y:Str}(g:mg y=some (.ref C))(j:pB K C=true)(m:dh K (.ref C)=true)(T:zK K C "__init__" qual st)(b:BodyOk CX0 P w K mg base qual st N k sp Cx.nox)(n:pp "__init__" qual st ps)(S:fo N ps (aY st):=by walk_at "s")(l:uF ps sp:=by walk_at "l"):New P w K mg base y C ps (k+1) sp:=by
 obtain⟨f,a,i,t⟩:=T;obtain⟨o,F⟩:=t.fun_;exact⟨f,o,F.ok S l fun d A outer s H p Q E e h=>b S.nd f d A outer s H p Q E e (sj e) h,g,⟨j,a,i,m⟩,F.binds n⟩
theorem dGX(X:K.In h)(G:h.Ns ba mg)(T:lP K x st)(b:BodyOk (BY P w K) P w K mg base x st N k sp id)(g:pp x x st ps)(S:fo N ps (aY st):=by walk_at "s")(l:uF ps sp:=by walk_at "l"):Fp P w K mg base x ps (k+1) sp:=by
 obtain⟨f,a,t⟩:=T;obtain⟨i,F⟩:=t.fun_;exact⟨f,i,F.okX S l fun d A outer s H j Q E e h=>b S.nd f d A outer s H j Q E e (sj e) h,cP X G a,F.kp,F.binds g⟩
theorem dNX{y:Str}(g:mg y=some (.ref C))(j:pB K C=true)(m:dh K (.ref C)=true)(T:zK K C "__init__" qual st)(b:BodyOk (BY P w K) P w K mg base qual st N k sp id)(n:pp "__init__" qual st ps)(S:fo N ps (aY st):=by walk_at "s")(l:uF ps sp:=by walk_at "l"):GN P w K mg base y C ps (k+1) sp:=by
 obtain⟨f,a,i,t⟩:=T;obtain⟨o,F⟩:=t.fun_;exact⟨f,o,F.okX S l fun d A outer s H p Q E e h=>b S.nd f d A outer s H p Q E e (sj e) h,g,⟨j,a,i,m⟩,F.binds n⟩
end
structure Zs(mg:Str->Option Value):Prop where
 ValueError:mg "ValueError"=none
 all:mg "all"=none
 bool:mg "bool"=none
 dict:mg "dict"=none
 enumerate:mg "enumerate"=none
 int:mg "int"=none
 isinstance:mg "isinstance"=none
 len:mg "len"=none
 list:mg "list"=none
 range:mg "range"=none
 str:mg "str"=none
 sum:mg "sum"=none
 tuple:mg "tuple"=none
 zip:mg "zip"=none
structure Cs(K:Za)(mg:Str->Option Value)(C Cx Ct a_STILL a_HUSH C_TooWide C_NoMatch C_NoRight Cf:Addr):Prop where
 LETTERS:Gc mg "LETTERS" (.str "abcdefghijklmnopqrstuvwxyz")
 LONGEST_NAME:Gc mg "LONGEST_NAME" (.int 8)
 MOST_WORDS:Gc mg "MOST_WORDS" (.int 4)
 MOST_ROOMS:Gc mg "MOST_ROOMS" (.int 150)
 MOST_DOORS:Gc mg "MOST_DOORS" (.int 2000)
 MOST_FACES:Gc mg "MOST_FACES" (.int 400)
 STILL:Gc mg "STILL" (.ref a_STILL)
 HUSH:Gc mg "HUSH" (.ref a_HUSH)
 still:GJ K a_STILL aA
 hush:GJ K a_HUSH bU
 mc:MC K C
 cm:mg "Machine"=some (.ref C)
 makes:pB K C=true
 kc:dh K (.ref C)=true
 xc:XC K Cx
 xb:Hx K Ct
 NoMachine:mg "NoMachine"=some (.ref Cx)
 TrialError:mg "TrialError"=some (.ref Ct)
 kx:dh K (.ref Cx)=true
 xt:XO K Ct fI
 xg:XG K
 x_NoMachine:XX K mg "NoMachine" Cx Ct
 nd:[Ct,Cx,C_TooWide,C_NoMatch,C_NoRight].Nodup
 x_TooWide:XX K mg "TooWide" C_TooWide Ct
 i_TooWide:aR K (.ref C_TooWide) "__init__"=some (some (.builtin "ValueError.__init__"))
 x_NoMatch:XX K mg "NoMatch" C_NoMatch Ct
 i_NoMatch:aR K (.ref C_NoMatch) "__init__"=some (some (.builtin "ValueError.__init__"))
 x_NoRight:XX K mg "NoRight" C_NoRight Ct
 i_NoRight:aR K (.ref C_NoRight) "__init__"=some (some (.builtin "ValueError.__init__"))
 fc:FC K Cf
 cmfc:mg "FaceMap"=some (.ref Cf)
 makesfc:pB K Cf=true
 kcfc:dh K (.ref Cf)=true
structure Ts(K:Za)(C Cx C_TooWide C_NoMatch C_NoRight Cf:Addr):Prop where
 f_law_spread:lP K "_law_spread" (ja 41)
 f_law_open:lP K "_law_open" (ja 42)
 f_law_anew:lP K "_law_anew" (ja 43)
 f_law_take:lP K "_law_take" (ja 44)
 f_law_names:lP K "_law_names" (ja 45)
 f_is_name:lP K "is_name" (ja 27)
 f_as_keys:lP K "as_keys" (ja 28)
 f_first_wrong_name:lP K "first_wrong_name" (ja 29)
 f_door_signs:lP K "door_signs" (ja 30)
 f_first_wrong_door:lP K "first_wrong_door" (ja 31)
 f_goals_by_start_and_sign:lP K "goals_by_start_and_sign" (ja 32)
 f_led_by_still:lP K "led_by_still" (ja 33)
 f_first_led_round:lP K "first_led_round" (ja 34)
 f_need_none:lP K "need_none" (ja 35)
 f_need_parts:lP K "need_parts" (ja 36)
 f_doors_by_start:lP K "doors_by_start" (ja 37)
 f_has_asks_alone:lP K "has_asks_alone" (ja 38)
 f_Machine___init__:zK K C "__init__" "Machine.__init__" (fW (ja 39) 0)
 f_law_machine:lP K "_law_machine" (ja 47)
 f_Machine_rooms:zK K C "rooms" "Machine.rooms" (fW (ja 39) 3)
 f_Machine_led_from:zK K C "led_from" "Machine.led_from" (fW (ja 39) 8)
 f_with_still:lP K "with_still" (ja 10)
 f_Machine_goals:zK K C "goals" "Machine.goals" (fW (ja 39) 7)
 f_Machine_is_quiet:zK K C "is_quiet" "Machine.is_quiet" (fW (ja 39) 5)
 f_Machine_asks:zK K C "asks" "Machine.asks" (fW (ja 39) 1)
 f_Machine_says:zK K C "says" "Machine.says" (fW (ja 39) 2)
 f_first_face:lP K "first_face" (ja 11)
 f_face_behind:lP K "face_behind" (ja 12)
 f_signs_in_order:lP K "signs_in_order" (ja 9)
 f_steps_at:lP K "steps_at" (ja 13)
 f_FaceMap_number_at:zK K Cf "number_at" "FaceMap.number_at" (fW (ja 16) 1)
 f_FaceMap_numbered_steps:zK K Cf "numbered_steps" "FaceMap.numbered_steps" (fW (ja 16) 2)
 f_FaceMap___init__:zK K Cf "__init__" "FaceMap.__init__" (fW (ja 16) 0)
 f_counts_one_sign_on:lP K "counts_one_sign_on" (ja 18)
 f_faces_of:lP K "faces_of" (ja 17)
 f_how_many:lP K "how_many" (ja 19)
 f_law_same:lP K "_law_same" (ja 48)
 f_law_ring:lP K "_law_ring" (ja 46)
 f_law16:lP K "law" (ja 49)
section
variable{P:aU}{w:World}{K:Za}{mg:Str->Option Value}{base h:Heap}{C Cx Ct a_STILL a_HUSH C_TooWide C_NoMatch C_NoRight Cf:Addr}
section
variable(P:aU)(w:World)(K:Za)(mg:Str->Option Value)(C Cx Ct a_STILL a_HUSH C_TooWide C_NoMatch C_NoRight Cf:Addr)
abbrev jL:Prop:=∀base,lQ P w K mg base "_law_spread" ["cell","at"] 1 kO
abbrev sM:Prop:=∀base,lQ P w K mg base "_law_open" ["script"] 1 (qi K)
abbrev mS:Prop:=∀base,lQ P w K mg base "_law_anew" ["pen"] 1 vA
abbrev jK:Prop:=∀base,lQ P w K mg base "_law_take" ["pen","many"] 2 jx
abbrev kL:Prop:=∀base,lQ P w K mg base "_law_names" ["pen","many"] 3 nj
abbrev pw:Prop:=∀base,lQ P w K mg base "is_name" ["text"] 1 sp_is_name
abbrev jo:Prop:=∀base,lQ P w K mg base "as_keys" ["things"] 1 (sp_as_keys K)
abbrev eE:Prop:=∀base,lQ P w K mg base "first_wrong_name" ["names","most","taken"] 2 (sp_first_wrong_name K)
abbrev jN:Prop:=∀base,lQ P w K mg base "door_signs" ["asks","says"] 1 (sp_door_signs K)
abbrev eF:Prop:=∀base,lQ P w K mg base "first_wrong_door" ["doors","rooms","signs"] 2 (sp_first_wrong_door K)
abbrev cr:Prop:=∀base,lQ P w K mg base "goals_by_start_and_sign" ["doors"] 1 nk
abbrev ik:Prop:=∀base,lQ P w K mg base "led_by_still" ["goals","room"] 1 vw
abbrev ft:Prop:=∀base,lQ P w K mg base "first_led_round" ["rooms","led"] 1 sp_first_led_round
abbrev iL:Prop:=∀base,lQ P w K mg base "need_none" ["part","number"] 3 sp_need_none
abbrev jJ:Prop:=∀base,lQ P w K mg base "need_parts" ["asks","says","rooms","doors"] 4 sp_need_parts
abbrev fU:Prop:=∀base,lQ P w K mg base "doors_by_start" ["rooms","doors"] 1 sp_doors_by_start
abbrev fS:Prop:=∀base,lQ P w K mg base "has_asks_alone" ["doors"] 1 sp_has_asks_alone
abbrev pA:Prop:=∀base,New P w K mg base "Machine" C ["self","asks","says","rooms","doors"] 5 (qj C)
abbrev lR:Prop:=∀base,lQ P w K mg base "_law_machine" ["told"] 7 (jz C)
abbrev eo:Prop:=∀base,DQ P w K mg base C "rooms" ["self"] 1 (kh C)
abbrev eG:Prop:=∀base,DQ P w K mg base C "led_from" ["self","room"] 1 (iB C)
abbrev gR:Prop:=∀base,lQ P w K mg base "with_still" ["M","rooms"] 2 (sp_with_still C)
abbrev gB:Prop:=∀base,DQ P w K mg base C "goals" ["self","room","sign"] 1 (je C)
abbrev eI:Prop:=∀base,DQ P w K mg base C "is_quiet" ["self","room"] 1 (iC C)
abbrev im:Prop:=∀base,DQ P w K mg base C "asks" ["self"] 1 (qp C)
abbrev il:Prop:=∀base,DQ P w K mg base C "says" ["self"] 1 (qg C)
abbrev jM:Prop:=∀base,lQ P w K mg base "first_face" ["M"] 3 (de C)
abbrev i6:Prop:=∀base,lQ P w K mg base "face_behind" ["M","face","sign"] 3 (qk K C)
abbrev fR:Prop:=∀base,lQ P w K mg base "signs_in_order" ["M"] 2 (vv C a_HUSH)
abbrev mR:Prop:=∀base,lQ P w K mg base "steps_at" ["M","face"] 4 (jy C)
abbrev cN:Prop:=∀base,Fl P w K mg base Cf "number_at" ["self","face","story"] 1 (jd K Cf C_TooWide)
abbrev cH:Prop:=∀base,Fl P w K mg base Cf "numbered_steps" ["self","number"] 5 (gJ K Cf C C_TooWide)
abbrev lh:Prop:=∀base,GN P w K mg base "FaceMap" Cf ["self","M"] 6 (hW K Cf C C_TooWide)
abbrev dF:Prop:=∀base,lQ P w K mg base "counts_one_sign_on" ["steps","counts"] 1 kP
abbrev sP:Prop:=∀base,Fp P w K mg base "faces_of" ["M"] 8 (iD K C C_TooWide)
abbrev sN:Prop:=∀base,Fp P w K mg base "how_many" ["M","n"] 8 (f6 K C C_TooWide)
abbrev sK:Prop:=∀base,lQ P w K mg base "_law_same" ["found","due"] 3 (iA K 2)
abbrev sL:Prop:=∀base,lQ P w K mg base "_law_ring" ["pen"] 4 qh
end
theorem Bn{X:L2.Cx}:PE X (.List [.Tuple [.Constant (.int 8) 0 ⟨246,22,246,23⟩,.Constant (.int 50) 0 ⟨246,25,246,27⟩,.Constant (.int 201) 0 ⟨246,29,246,32⟩] 0 ⟨246,21,246,33⟩,.Tuple [.Constant (.int 20) 0 ⟨246,36,246,38⟩,.Constant (.int 20) 0 ⟨246,40,246,42⟩,.Constant (.int 21) 0 ⟨246,44,246,46⟩] 0 ⟨246,35,246,47⟩,.Tuple [.Constant (.int 3) 0 ⟨246,50,246,51⟩,.Constant (.int 5) 0 ⟨246,53,246,54⟩,.Constant (.int 16) 0 ⟨246,56,246,58⟩] 0 ⟨246,49,246,59⟩,.Tuple [.Constant (.int 1) 0 ⟨246,62,246,63⟩,.Constant (.int 1) 0 ⟨246,65,246,66⟩,.Constant (.int 2) 0 ⟨246,68,246,69⟩] 0 ⟨246,61,246,70⟩] ⟨246,20,246,71⟩) (eL (aG (bW (dR (tC (.int 8)) (tC (.int 50)) (tC (.int 201)))) (aG (bW (dR (tC (.int 20)) (tC (.int 20)) (tC (.int 21)))) (aM (bW (dR (tC (.int 3)) (tC (.int 5)) (tC (.int 16)))) (bW (dR (tC (.int 1)) (tC (.int 1)) (tC (.int 2)))))))):=by
 refine bR ?_;refine f_ ?_ ?_
 ·refine bh ?_;refine aO ?_ ?_ ?_
  ·exact ai
  rotate_left
  ·rfl
  refine aO ?_ ?_ ?_
  ·exact ai
  rotate_left
  ·rfl
  refine aO ?_ ?_ ?_
  ·exact ai
  rotate_left
  ·rfl
  exact bH
 refine f_ ?_ ?_
 ·refine bh ?_;refine aO ?_ ?_ ?_
  ·exact ai
  rotate_left
  ·rfl
  refine aO ?_ ?_ ?_
  ·exact ai
  rotate_left
  ·rfl
  refine aO ?_ ?_ ?_
  ·exact ai
  rotate_left
  ·rfl
  exact bH
 refine f_ ?_ ?_
 ·refine bh ?_;refine aO ?_ ?_ ?_
  ·exact ai
  rotate_left
  ·rfl
  refine aO ?_ ?_ ?_
  ·exact ai
  rotate_left
  ·rfl
  refine aO ?_ ?_ ?_
  ·exact ai
  rotate_left
  ·rfl
  exact bH
 refine f_ ?_ ?_
 ·refine bh ?_;refine aO ?_ ?_ ?_
  ·exact ai
  rotate_left
  ·rfl
  refine aO ?_ ?_ ?_
  ·exact ai
  rotate_left
  ·rfl
  refine aO ?_ ?_ ?_
  ·exact ai
  rotate_left
  ·rfl
  exact bH
 exact bH
theorem Bo{X:L2.Cx}:PE X (.List [.Tuple [.Constant (.int 19) 0 ⟨245,14,245,16⟩,.Constant (.int 21) 0 ⟨245,18,245,20⟩,.Constant (.int 400) 0 ⟨245,22,245,25⟩] 0 ⟨245,13,245,26⟩,.Tuple [.Constant (.int 16) 0 ⟨245,29,245,31⟩,.Constant (.int 25) 0 ⟨245,33,245,35⟩,.Constant (.int 401) 0 ⟨245,37,245,40⟩] 0 ⟨245,28,245,41⟩,.Tuple [.Constant (.int 7) 0 ⟨245,44,245,45⟩,.Constant (.int 57) 0 ⟨245,47,245,49⟩,.Constant (.int 400) 0 ⟨245,51,245,54⟩] 0 ⟨245,43,245,55⟩,.Tuple [.Constant (.int 13) 0 ⟨245,58,245,60⟩,.Constant (.int 31) 0 ⟨245,62,245,64⟩,.Constant (.int 404) 0 ⟨245,66,245,69⟩] 0 ⟨245,57,245,70⟩] ⟨245,12,245,71⟩) (eL (aG (bW (dR (tC (.int 19)) (tC (.int 21)) (tC (.int 400)))) (aG (bW (dR (tC (.int 16)) (tC (.int 25)) (tC (.int 401)))) (aM (bW (dR (tC (.int 7)) (tC (.int 57)) (tC (.int 400)))) (bW (dR (tC (.int 13)) (tC (.int 31)) (tC (.int 404)))))))):=by
 refine bR ?_;refine f_ ?_ ?_
 ·refine bh ?_;refine aO ?_ ?_ ?_
  ·exact ai
  rotate_left
  ·rfl
  refine aO ?_ ?_ ?_
  ·exact ai
  rotate_left
  ·rfl
  refine aO ?_ ?_ ?_
  ·exact ai
  rotate_left
  ·rfl
  exact bH
 refine f_ ?_ ?_
 ·refine bh ?_;refine aO ?_ ?_ ?_
  ·exact ai
  rotate_left
  ·rfl
  refine aO ?_ ?_ ?_
  ·exact ai
  rotate_left
  ·rfl
  refine aO ?_ ?_ ?_
  ·exact ai
  rotate_left
  ·rfl
  exact bH
 refine f_ ?_ ?_
 ·refine bh ?_;refine aO ?_ ?_ ?_
  ·exact ai
  rotate_left
  ·rfl
  refine aO ?_ ?_ ?_
  ·exact ai
  rotate_left
  ·rfl
  refine aO ?_ ?_ ?_
  ·exact ai
  rotate_left
  ·rfl
  exact bH
 refine f_ ?_ ?_
 ·refine bh ?_;refine aO ?_ ?_ ?_
  ·exact ai
  rotate_left
  ·rfl
  refine aO ?_ ?_ ?_
  ·exact ai
  rotate_left
  ·rfl
  refine aO ?_ ?_ ?_
  ·exact ai
  rotate_left
  ·rfl
  exact bH
 exact bH
section
variable(X:K.In h)(G:h.Ns ba mg)(z:Zs mg)(c:Cs K mg C Cx Ct a_STILL a_HUSH C_TooWide C_NoMatch C_NoRight Cf)(T:Ts K C Cx C_TooWide C_NoMatch C_NoRight Cf)
include X G z c T
theorem sX:jL P w K mg:=fun base=>dG X G T.f_law_spread (fun S _ _ _ _ _ _ _ _ _ a d h=>bK (Bd (K:=K) h) (ag (dk (vi Hm (pv 0) (aB C2 ai ai)) (am (aE (pv 0))) bu) (ag (qs 2 S (aB dW (aB bE (aB bE (aB gu (aB dW (pv 0) ai) ai) (aB gu (pv 1) ai)) ai) ai)) (ag (qs 3 S (aB dW (aB bE (aB bE (aB gu (pv 2) (pv 2)) (aB gu (pv 1) ai)) (aB dW (pv 0) ai)) ai)) (ag (qs 4 S (aB dW (aB bE (aB bE (aB gu (pv 3) (pv 3)) (aB gu (pv 2) ai)) ai) ai)) (am (aE (aB bE (aB gu (aB bE (aB gu (pv 2) ai) (pv 3)) ai) (pv 4))))))))) (by walk_at "b")
theorem wK:sM P w K mg:=fun base=>dG X G T.f_law_open (fun S _ _ _ _ _ _ _ _ _ a d h=>bK (Ev h) (ag (qs 1 S (qL rfl z.list (a1 (fj nA (pv 0) iE (fV ai))))) (ag (cE cq rfl (qt rfl z.enumerate (a1 (fj nA (pv 0) (fV ai) (fV ai)))) (ib rfl (aW (gn 2 S) (aW (gn 3 S) fh))) (am (mr (aB bE (xl (pv 1) (aB dW (pv 2) ai)) (pv 3)) (rT (pv 1) (aB dW (pv 2) ai) ki)))) (am (aE (bR (a3 (pv 1) ai ai))))))) (by walk_at "b")
theorem wL:mS P w K mg:=fun base=>dG X G T.f_law_anew (fun S _ _ _ _ _ _ _ _ _ a d h=>bK (Ez (K:=K) h) (ag (mr ai (rT (pv 0) ai ki)) (am (aE (pv 0))))) (by walk_at "b")
theorem wH(a:jL P w K mg):jK P w K mg:=fun base=>dG X G T.f_law_take (fun S _ _ _ _ _ _ _ _ _ d e h=>bK (Es h) (ag (dk (vi Az (xl (pv 0) ai) (pv 1)) (ag (qs 2 S (xl (pv 0) ai)) (ag (qs 3 S ai) (ag (dk (vi Az (pv 2) (ql z.len (a1 (xl (pv 0) ai)))) (am (qs 3 S (xl (xl (pv 0) ai) (pv 2)))) (am (dk (vi AA (ql z.len (a1 (xl (pv 0) ai))) ai) (am (qs 3 S (aB dW (xl (xl (pv 0) ai) (aB dW (aB bE (aB gu (pv 2) ai) ai) (ql z.len (a1 (xl (pv 0) ai))))) (aB bE (aB C2 ai ai) (pv 2))))) bu))) (ag (mr (aB bE (pv 2) ai) (rT (pv 0) ai ki)) (am (mr (qf d (a base) (a2 (pv 3) (pv 2))) (rT (pv 0) ai ki))))))) bu) (ag (qs 4 S (aB dW (xl (pv 0) ai) (pv 1))) (ag (mr (aB vM (xl (pv 0) ai) (pv 1)) (rT (pv 0) ai ki)) (am (aE (pv 4))))))) (by walk_at "b")
theorem vq(a:jK P w K mg):kL P w K mg:=fun base=>dG X G T.f_law_names (fun S _ _ _ _ _ _ _ _ _ d e h=>bK (Cy h) (ag (qs 2 S cf) (ag (qs 3 S (ky PySem.F.plainAttrs_str PySem.F.slot_str_join PySem.F.type_str_join EX cf (a1 (qc (gU rfl z.range (a1 ai)) (c_ (by decide)) fun _ _ _ _ _ _=>⟨gc 0,fg,xs' (pv 1) (qf d (a base) (a2 (pv 2) ai))⟩)))) (ag (qs 4 S (qf d (a base) (a2 (pv 0) ai))) (ag (qs 5 S (qf d (a base) (a2 (pv 0) ai))) (ag (qs 6 S (qf d (a base) (a2 (pv 0) ai))) (ag (qs 7 S (bR bH)) (ag (cE cq rfl (gU rfl z.range (a1 (pv 1))) (gn 8 S) (ag (qs 9 S (xs' (pv 2) (aB dW (aB bE (pv 5) (aB gu ai (pv 8))) ai))) (ag (qs 10 S (fj vC (pv 3) iE (fV (aB dW (aB bE (pv 6) (aB gu (pv 8) (aB dW (pv 4) ai))) ai)))) (ag (qs 11 S (xl (bR (a3 ai (ql z.len (a1 (pv 10))) (aB vM (ql z.len (a1 (pv 10))) ai))) (pv 4))) (am (cK (ky g0 jr jq df (pv 7) (a1 (aB jC (aB jC (fj vC (pv 10) iE (fV (pv 11))) (pv 9)) (fj vC (pv 10) (fV (pv 11)) iE)))))))))) (am (aE (pv 7))))))))))) (by walk_at "b")
theorem yn:pw P w K mg:=fun base=>dG X G T.f_is_name (fun S _ _ _ _ _ _ _ _ _ a d h=>bK (yC h) (am (aE (jB (DX Ay (pv 0) cf) (jB (DX Hl (ql z.len (a1 (pv 0))) (ko rfl c.LONGEST_NAME)) (rU (qB (pO rfl) z.all boot_all (a1 (qc (Gj (pv 0)) (c_ (by decide)) fun _ _ _ _ _ _=>⟨gc 0,fg,eci yO (pv 0) (ko rfl c.LETTERS)⟩))))))))) (by walk_at "b")
theorem yo:jo P w K mg:=fun base=>dG X G T.f_as_keys (fun S _ _ _ _ _ _ _ _ _ d a h=>bK (yE h) (ag (qs 1 S kr) (ag (cE cq rfl (cL (pv 0)) (gn 2 S) (am (gL a (pv 1) (pv 2) fB rfl))) (am (aE (pv 1)))))) (by walk_at "b")
theorem lu(a:pw P w K mg)(d:jo P w K mg):eE P w K mg:=fun base=>dG X G T.f_first_wrong_name (fun S _ _ _ _ _ _ _ _ _ e f h=>bK (lB h) (ag (dk (vi rY (ql z.len (a1 (pv 0))) ai) (am (aE ai)) bu) (ag (qs 3 S (qf e (d base) (a1 (pv 2)))) (ag (cE cq rfl (qt rfl z.enumerate (a1 (pv 0))) (ib rfl (aW (gn 4 S) (aW (gn 5 S) fh))) (ag (dk (PW.pt (ue (vi rY (pv 4) (pv 1)) (ue (ia (rW f (pv 5) (pv 3))) (vI (CL (o0 (qf e (a base) (a1 (pv 5))))))))) (am (aE (pv 4))) bu) (am (gL f (pv 3) (pv 5) fB rfl)))) (am (aE rV)))))) (by walk_at "b")
theorem sZ:jN P w K mg:=fun base=>dG X G T.f_door_signs (fun S _ _ _ _ _ _ _ _ _ a d h=>bK (tq c.still h) (am (aE (aB o6 (aB o6 (qc (cL (pv 0)) (c_ (by decide)) fun _ _ _ _ _ _=>⟨gc 0,fg,bh (a2 cf (pv 0))⟩) (qc (cL (pv 1)) (c_ (by decide)) fun _ _ _ _ _ _=>⟨gc 0,fg,bh (a2 cf (pv 0))⟩)) (bR (a1 (ko rfl c.STILL))))))) (by walk_at "b")
theorem lA(a:jo P w K mg):eF P w K mg:=fun base=>dG X G T.f_first_wrong_door (fun S _ _ _ _ _ _ _ _ _ e d h=>bK (lC h) (ag (qs 3 S (qf e (a base) (a1 (pv 1)))) (ag (qs 4 S kq) (ag (cE cq rfl (qt rfl z.enumerate (a1 (pv 0))) (ib rfl (aW (gn 5 S) (aW (gn 6 S) fh))) (ag (dk (PW.pt (ue (vi rY (pv 5) (ko rfl c.MOST_DOORS)) (vI (ia (rW d (pv 6) (pv 4)))))) (am (aE (pv 5))) bu) (ag (dk (PW.pt (ue (ia (ji d (xq (pv 6) ai) (pv 3))) (ue (tci (Bp d) (xq (pv 6) ai) (pv 2)) (vI (ia (ji d (xq (pv 6) ai) (pv 3))))))) (am (aE (pv 5))) bu) (am (gL d (pv 4) (pv 6) fB rfl))))) (am (aE rV)))))) (by walk_at "b")
theorem hV:cr P w K mg:=fun base=>dG X G T.f_goals_by_start_and_sign (fun S _ _ _ _ _ _ _ _ _ d a h=>bK (hZ h) (ag (qs 1 S kq) (ag (cE cq rfl (cL (pv 0)) (ib rfl (aW (gn 2 S) (aW (gn 3 S) (aW (gn 4 S) fh)))) (am (cK (ky g0 jr jq df (ky PySem.F.plainAttrs_dict PySem.F.slot_dict_setdefault PySem.F.type_dict_setdefault (Bs a) (pv 1) (a2 (bh (a2 (pv 2) (pv 3))) (bR bH))) (a1 (pv 4)))))) (am (aE (pv 1)))))) (by walk_at "b")
theorem pT:ik P w K mg:=fun base=>dG X G T.f_led_by_still (fun S _ _ _ _ _ _ _ _ _ d a h=>bK (pU c.still h) (ag (qs 2 S kr) (ag (qs 3 S (bR (a1 (pv 1)))) (ag (CM cq (vi AA (ql z.len (a1 (pv 3))) ai) (ag (qs 4 S (Gq g0 PySem.F.slot_list_pop PySem.F.type_list_pop Gv (pv 3))) (am (cE cq rfl (Gk (nG a (pv 0) (bh (a2 (pv 4) (ko rfl c.STILL))) (bh bH) ⟨rfl,rfl,rfl,rfl⟩)) (gn 5 S) (am (dk (ia (ji a (pv 5) (pv 2))) (ag (gL a (pv 2) (pv 5) fB rfl) (am (cK (ky g0 jr jq df (pv 3) (a1 (pv 5)))))) bu)))))) (am (aE (pv 2))))))) (by walk_at "b")
theorem mm:ft P w K mg:=fun base=>dG X G T.f_first_led_round (fun S _ _ _ _ _ _ _ _ _ d a h=>bK (mq h) (ag (cE cq rfl (qt rfl z.enumerate (a1 (pv 0))) (ib rfl (aW (gn 2 S) (aW (gn 3 S) fh))) (am (dk (ia (rW a (pv 3) (qw a (pv 1) (pv 3) (fun _ _=>rfl)))) (am (aE (pv 2))) bu))) (am (aE rV)))) (by walk_at "b")
theorem vp:iL P w K mg:=fun base=>dG X G T.f_need_none (fun S _ _ _ _ _ _ _ _ _ a d h=>bK (vF (K:=K) h) (am (dk (ia (ES (pv 1))) (am (CO)) bu))) (by walk_at "b")
theorem sW(a:eE P w K mg)(f:jN P w K mg)(e:eF P w K mg)(d:iL P w K mg):jJ P w K mg:=fun base=>dG X G T.f_need_parts (fun S _ _ _ _ _ _ _ _ _ g i h=>bK (tj (K:=K) h) (ag (cK (qf g (d base) (a2 cf (qf g (a base) (a3 (pv 0) (ko rfl c.MOST_WORDS) (bR bH)))))) (ag (cK (qf g (d base) (a2 cf (qf g (a base) (a3 (pv 1) (ko rfl c.MOST_WORDS) (pv 0)))))) (ag (cK (qf g (d base) (a2 cf (qf g (a base) (a3 (pv 2) (ko rfl c.MOST_ROOMS) (bR bH)))))) (am (cK (qf g (d base) (a2 cf (qf g (e base) (a3 (pv 3) (pv 2) (qf g (f base) (a2 (pv 0) (pv 1))))))))))))) (by walk_at "b")
theorem ng:fU P w K mg:=fun base=>dG X G T.f_doors_by_start (fun S _ _ _ _ _ _ _ _ _ d a h=>bK (nF h) (ag (qs 2 S kr) (ag (cE cq rfl (cL (pv 0)) (gn 3 S) (am (gL a (pv 2) (pv 3) (bR bH) rfl))) (ag (cE cq rfl (cL (pv 1)) (gn 4 S) (am (cK (ky g0 jr jq df (qw a (pv 2) (xq (pv 4) ai) (fun _ _=>rfl)) (a1 (pv 4)))))) (am (aE (pv 2))))))) (by walk_at "b")
theorem m_:fS P w K mg:=fun base=>dG X G T.f_has_asks_alone (fun S _ _ _ _ _ _ _ _ _ a d h=>bK (nE h) (am (aE (qB (pO rfl) z.all boot_all (a1 (qc (cL (pv 0)) (c_ (by decide)) fun _ _ _ _ _ _=>⟨gc 0,fg,DX rY (xq (xq (pv 0) ai) ai) cf⟩)))))) (by walk_at "b")
theorem yq(k:jo P w K mg)(a:cr P w K mg)(g:ik P w K mg)(d:ft P w K mg)(j:iL P w K mg)(i:jJ P w K mg)(e:fU P w K mg)(f:fS P w K mg):pA P w K mg C:=fun base=>dN c.cm c.makes c.kc T.f_Machine___init__ (fun S _ _ _ _ _ _ _ _ _ l m h=>bK (Ew c.mc h) (ag (cK (qf l (i base) (aO (pv 1) (a3 (pv 2) (pv 3) (pv 4))))) (ag (fL (pv 0) (qL rfl z.list (a1 (pv 1))) rfl) (ag (fL (pv 0) (qL rfl z.list (a1 (pv 2))) rfl) (ag (fL (pv 0) (qL rfl z.list (a1 (pv 3))) rfl) (ag (fL (pv 0) (qL rfl z.list (a1 (pv 4))) rfl) (ag (fL (pv 0) (qf l (e base) (a2 (pv 3) (pv 4))) rfl) (ag (fL (pv 0) (qf l (k base) (a1 (qc (cL (pv 3)) (c_ (by decide)) fun _ _ _ _ _ _=>⟨gc 0,vJ (o0 (qf l (f base) (a1 (qw m (bT (pv 1) rfl) (pv 0) (fun _ _=>rfl))))),pv 0⟩))) rfl) (ag (fL (pv 0) (qf l (a base) (a1 (pv 4))) rfl) (ag (fL (pv 0) (jh (v3 rfl) rfl z.dict zm (a1 (qc (cL (pv 3)) (c_ (by decide)) fun _ _ _ _ _ _=>⟨gc 0,fg,bh (a2 (pv 0) (qf l (g base) (a2 (bT (pv 1) rfl) (pv 0))))⟩))) rfl) (am (cK (qf l (j base) (a2 cf (qf l (d base) (a2 (pv 3) (bT (pv 0) rfl))))))))))))))))) (by walk_at "b")
theorem rK(a:pA P w K mg C):lR P w K mg C:=fun base=>dG X G T.f_law_machine (fun S _ _ _ _ _ _ _ _ _ d e h=>bK (yB h) (am (aE (Go (a base) (d.mono (by decide)) rfl (aO (qL rfl z.list (a1 (xq (pv 0) ai))) (a3 (qL rfl z.list (a1 (xq (pv 0) ai))) (qL rfl z.list (a1 (xq (pv 0) ai))) (qL rfl z.list (a1 (xq (pv 0) ai))))))))) (by walk_at "b")
theorem oS:eo P w K mg C:=fun base=>dM c.mc.cls T.f_Machine_rooms (fun S _ _ _ _ _ _ _ _ _ a d h=>bK (Cw c.mc h) (am (aE (qL rfl z.list (a1 (bT (pv 0) rfl)))))) (by walk_at "b")
theorem lp:eG P w K mg C:=fun base=>dM c.mc.cls T.f_Machine_led_from (fun S _ _ _ _ _ _ _ _ _ d a h=>bK (wT c.mc h) (am (aE (qL rfl z.list (a1 (nG a (bT (pv 0) rfl) (pv 1) (bh bH) ⟨rfl,rfl,rfl,rfl⟩)))))) (by walk_at "b")
theorem sV(d:eo P w K mg C)(a:eG P w K mg C):gR P w K mg C:=fun base=>dG X G T.f_with_still (fun S _ _ _ _ _ _ _ _ _ f e h=>bK (tf h) (ag (qs 2 S kr) (ag (cE cq rfl (cL (pv 1)) (gn 3 S) (am (dk (ia (ji e (pv 3) (pv 2))) (ag (gL e (pv 2) (pv 3) fB rfl) (am (cE cq rfl (cL (qm f (a base) (pv 0) (a1 (pv 3)))) (gn 4 S) (am (gL e (pv 2) (pv 4) fB rfl))))) bu))) (am (aE (jh lN rfl z.tuple kG (a1 (qc (cL (HQ f (d base) (pv 0))) (c_ (by decide)) fun _ _ _ _ _ _=>⟨gc 0,vJ (ia (rW e (pv 0) (pv 1))),pv 0⟩)))))))) (by walk_at "b")
theorem oU:gB P w K mg C:=fun base=>dM c.mc.cls T.f_Machine_goals (fun S _ _ _ _ _ _ _ _ _ d a h=>bK (Bg c.mc h) (am (aE (qL rfl z.list (a1 (nG a (bT (pv 0) rfl) (bh (a2 (pv 1) (pv 2))) (bh bH) ⟨rfl,rfl,rfl,rfl⟩)))))) (by walk_at "b")
theorem lr:eI P w K mg C:=fun base=>dM c.mc.cls T.f_Machine_is_quiet (fun S _ _ _ _ _ _ _ _ _ d a h=>bK (wU c.mc h) (am (aE (yM (rW a (pv 1) (bT (pv 0) rfl)))))) (by walk_at "b")
theorem pS:im P w K mg C:=fun base=>dM c.mc.cls T.f_Machine_asks (fun S _ _ _ _ _ _ _ _ _ a d h=>bK (Ey c.mc h) (am (aE (qL rfl z.list (a1 (bT (pv 0) rfl)))))) (by walk_at "b")
theorem pR:il P w K mg C:=fun base=>dM c.mc.cls T.f_Machine_says (fun S _ _ _ _ _ _ _ _ _ a d h=>bK (Et c.mc h) (am (aE (qL rfl z.list (a1 (bT (pv 0) rfl)))))) (by walk_at "b")
theorem sY(a:eo P w K mg C)(d:gR P w K mg C):jM P w K mg C:=fun base=>dG X G T.f_first_face (fun S _ _ _ _ _ _ _ _ _ e f h=>bK (tm h) (am (aE (qf e (d base) (a2 (pv 0) (fj nA (HQ e (a base) (pv 0)) iE (fV ai))))))) (by walk_at "b")
theorem rM(e:gR P w K mg C)(d:gB P w K mg C)(a:eI P w K mg C):i6 P w K mg C:=fun base=>dG X G T.f_face_behind (fun S _ _ _ _ _ _ _ _ _ f g h=>bK (Ex c.hush h) (ag (dk (vi (yP g) (pv 2) (ko rfl c.HUSH)) (am (aE (jh lN rfl z.tuple kG (a1 (qc (CU (pv 1)) (c_ (by decide)) fun _ _ _ _ _ _=>⟨gc 0,vJ (o0 (qm f (a base) (pv 1) (a1 (pv 0)))),pv 0⟩))))) bu) (ag (qs 3 S (bR bH)) (ag (cE cq rfl (CU (pv 1)) (gn 4 S) (am (cK (ky g0 PySem.F.slot_list_extend PySem.F.type_list_extend Bt (pv 3) (a1 (qm f (d base) (pv 0) (a2 (pv 4) (pv 2)))))))) (am (aE (qf f (e base) (a2 (pv 0) (pv 3))))))))) (by walk_at "b")
theorem m9(a:im P w K mg C)(d:il P w K mg C):fR P w K mg C a_HUSH:=fun base=>dG X G T.f_signs_in_order (fun S _ _ _ _ _ _ _ _ _ e f h=>bK (Gg h) (am (aE (aB o6 (aB o6 (qc (cL (HQ e (a base) (pv 0))) (c_ (by decide)) fun _ _ _ _ _ _=>⟨gc 0,fg,bh (a2 cf (pv 0))⟩) (qc (cL (HQ e (d base) (pv 0))) (c_ (by decide)) fun _ _ _ _ _ _=>⟨gc 0,fg,bh (a2 cf (pv 0))⟩)) (bR (a1 (ko rfl c.HUSH))))))) (by walk_at "b")
theorem wG(d:i6 P w K mg C)(a:fR P w K mg C a_HUSH):mR P w K mg C:=fun base=>dG X G T.f_steps_at (fun S _ _ _ _ _ _ _ _ _ e f h=>bK (yz c.hush h) (ag (qs 2 S kq) (ag (cE cq rfl (cL (qf e (a base) (a1 (pv 0)))) (gn 3 S) (ag (qs 4 S (qf e (d base) (a3 (pv 0) (pv 1) (pv 3)))) (am (dk (vi AA (ql z.len (a1 (pv 4))) ai) (am (CQ f (pv 2) (pv 3) (pv 4) rfl)) bu)))) (am (aE (pv 2)))))) (by walk_at "b")
theorem kg:cN P w K mg C_TooWide Cf:=fun base=>dMX c.fc.cls T.f_FaceMap_number_at (fun S _ _ _ _ _ _ _ _ _ d a h=>bK (Bf c.fc h) (rS (cy (FD (ia (ji a (pv 1) (bT (pv 0) rfl))) (cy (FD (vi rY (ql z.len (a1 (bT (pv 0) rfl))) (ko rfl c.MOST_FACES)) (h_ (qr (Bj c.x_TooWide.cls c.i_TooWide c.x_TooWide.kp rfl rfl c.x_TooWide.g (a1 cf)))) CK) (cy (qr (cJ (gL a (bT (pv 0) rfl) (pv 1) (ql z.len (a1 (bT (pv 0) rfl))) rfl))) (cy (qr (cJ (cK (ky g0 jr jq df (bT (pv 0) rfl) (a1 (pv 1)))))) (h_ (qr (cJ (cK (ky g0 jr jq df (bT (pv 0) rfl) (a1 (pv 2)))))))))) CK) (h_ (qr (cJ (aE (qw a (bT (pv 0) rfl) (pv 1) (fun _ _=>rfl))))))))) (by walk_at "b")
theorem iq(d:mR P w K mg C)(a:cN P w K mg C_TooWide Cf):cH P w K mg C C_TooWide Cf:=fun base=>dMX c.fc.cls T.f_FaceMap_numbered_steps (fun S _ _ _ _ _ _ _ _ _ e f h=>bK (vE c.fc h) (rS (cy (qr (cJ (qs 2 S kq))) (cy (Gi rfl (Bl (qf e (d base) (a2 (bT (pv 0) rfl) (xl (bT (pv 0) rfl) (pv 1))))) (ib rfl (aW (gn 3 S) (aW (gn 4 S) fh))) (h_ (qr (Bk f (pv 2) (pv 3) (vK (a base) (e.mono (by decide)) (pv 0) (a2 (pv 4) (aB o6 (xl (bT (pv 0) rfl) (pv 1)) (bR (a1 (pv 3)))))) rfl)))) (h_ (qr (cJ (aE (pv 2))))))))) (by walk_at "b")
theorem yr(e:jM P w K mg C)(d:cN P w K mg C_TooWide Cf)(a:cH P w K mg C C_TooWide Cf):lh P w K mg C C_TooWide Cf:=fun base=>dNX c.cmfc c.makesfc c.kcfc T.f_FaceMap___init__ (fun S _ _ _ _ _ _ _ _ _ f g h=>bK (yD c.fc h) (rS (cy (qr (cJ (fL (pv 0) (pv 1) rfl))) (cy (qr (cJ (fL (pv 0) (bR bH) rfl))) (cy (qr (cJ (fL (pv 0) (bR bH) rfl))) (cy (qr (cJ (fL (pv 0) kq rfl))) (cy (qr (cJ (fL (pv 0) (bR bH) rfl))) (cy (qr (Aq (vK (d base) (f.mono (by decide)) (pv 0) (a2 (qf f (e base) (a1 (pv 1))) (bR bH))))) (h_ (CJ (vi Az (ql z.len (a1 (bT (pv 0) rfl))) (ql z.len (a1 (bT (pv 0) rfl)))) (h_ (qr (Aq (EJ g0 jr jq (fun _=>df) (bT (pv 0) rfl) (vK (a base) (f.mono (by decide)) (pv 0) (a1 (ql z.len (a1 (bT (pv 0) rfl))))))))))))))))))) (by walk_at "b")
theorem jU:dF P w K mg:=fun base=>dG X G T.f_counts_one_sign_on (fun S _ _ _ _ _ _ _ _ _ d a h=>bK (Be h) (ag (qs 2 S kr) (ag (cE cq rfl (Bm (pv 1)) (ib rfl (aW (gn 3 S) (aW (gn 4 S) fh))) (am (cE cq rfl (CT (xl (pv 0) (pv 3))) (gn 5 S) (am (gL a (pv 2) (pv 5) (aB bE (nG a (pv 2) (pv 5) ai ⟨rfl,rfl,rfl,rfl⟩) (pv 4)) rfl))))) (am (aE (pv 2)))))) (by walk_at "b")
theorem wN(a:lh P w K mg C C_TooWide Cf):sP P w K mg C C_TooWide:=fun base=>dGX X G T.f_faces_of (fun S _ _ _ _ _ _ _ _ _ d e h=>bK (wW c.fc h) (rS (cy (qr (vH (i:=1) S rfl (Or.inl rfl) (Au (a base) (d.mono (by decide)) rfl (a1 (pv 0))))) (h_ (qr (cJ (aE (yL rfl rfl z.list rfl z.zip (a2 (bT (pv 1) rfl) (bT (pv 1) rfl)))))))))) (by walk_at "b")
theorem wM(d:lh P w K mg C C_TooWide Cf)(a:dF P w K mg):sN P w K mg C C_TooWide:=fun base=>dGX X G T.f_how_many (fun S _ _ _ _ _ _ _ _ _ e f h=>bK (wV c.fc h) (rS (cy (qr (vH (i:=2) S rfl (Or.inl rfl) (EI (Au (d base) (e.mono (by decide)) rfl (a1 (pv 0)))))) (cy (qr (cJ (dk (vi Az (pv 1) ai) (am (aE ai)) bu))) (cy (qr (cJ (qs 3 S (EO (CS ai ai EG) rfl rfl nofun (by decide))))) (cy (qr (cJ (cE cq rfl (gU rfl z.range (a1 (pv 1))) (gn 4 S) (am (qs 3 S (qf e (a base) (a2 (pv 2) (pv 3)))))))) (h_ (qr (cJ (aE (EK (pv 3) rfl rfl z.sum))))))))))) (by walk_at "b")
theorem wI:sK P w K mg:=fun base=>by
  have E0:lQ P w K mg base "_law_same" ["found","due"] 0 Hc:=by
   obtain⟨f,a,t⟩:=T.f_law_same;obtain⟨k,F⟩:=t.fun_;exact⟨f,k,Hn,cP X G a,F.kp,F.binds (ps:=["found","due"]) (by walk_at "b")⟩
  have st:∀(j:Nat) (d:Sp),j<=8->(∀m,j=m+1->d=(iA K m))->lQ P w K mg base "_law_same" ["found","due"] j d->lQ P w K mg base "_law_same" ["found","due"] (j+1) (iA K j):=fun j d n g o=>dG X G T.f_law_same (fun S _ _ _ _ _ _ _ _ _ p i h=>bK (Cv n g h) (ag (dk (ia (yN (pv 1))) (am (aE (yM (yN (pv 0))))) bu) (ag (dk (vi vL (pv 1) fB) (am (aE (DX vL (pv 0) fB))) bu) (ag (dk (vi vL (pv 1) fB) (am (aE (DX vL (pv 0) fB))) bu) (ag (dk (o0 (qB d9 z.isinstance cA (a2 (pv 1) (uh rfl z.int)))) (am (aE (jB (qB d9 z.isinstance cA (a2 (pv 0) (uh rfl z.int))) (jB (Gn (qB d9 z.isinstance cA (a2 (pv 0) (yJ rfl z.bool)))) (rU (DX (yP i) (pv 0) (pv 1))))))) bu) (ag (dk (o0 (qB d9 z.isinstance cA (a2 (pv 1) (ug rfl z.str)))) (am (aE (jB (qB d9 z.isinstance cA (a2 (pv 0) (ug rfl z.str))) (rU (DX (yP i) (pv 0) (pv 1)))))) bu) (ag (dk (PW.pt (ue (vi Ay (qB d9 z.isinstance cA (a2 (pv 1) (pG rfl z.tuple))) (qB d9 z.isinstance cA (a2 (pv 0) (pG rfl z.tuple)))) (vI (vi Ay (qB d9 z.isinstance cA (a2 (pv 1) (mw rfl z.list))) (qB d9 z.isinstance cA (a2 (pv 0) (mw rfl z.list))))))) (am (aE fB)) bu) (ag (dk (vi Ay (ql z.len (a1 (pv 0))) (ql z.len (a1 (pv 1)))) (am (aE fB)) bu) (ag (cE cq rfl (EH rfl z.zip (a2 (pv 0) (pv 1))) (ib rfl (aW (gn 2 S) (aW (gn 3 S) fh))) (am (dk (CL (o0 (FE o p rfl (a2 (pv 2) (pv 3))))) (am (aE fB)) bu))) (am (aE fB))))))))))) (by walk_at "b") (l:=fun u H Q E h=>by rcases h with h|h;(obtain⟨_,_,_,_,rfl,_⟩:=h;rfl);(obtain⟨_,_,h,_⟩:=h;subst h;rfl));have q:=st 0 _ (by decide) (fun m e=>by cases e) E0;have r:=st 1 _ (by decide) (fun m e=>by cases e;rfl) q;have s:=st 2 _ (by decide) (fun m e=>by cases e;rfl) r;exact s
theorem wJ(e:mS P w K mg)(a:jK P w K mg)(d:kL P w K mg):sL P w K mg:=fun base=>dG X G T.f_law_ring (fun S _ _ _ _ _ _ _ _ _ f g h=>bK (Eu h) (by(refine ag (cK (qf f (e base) (a1 (pv 0)))) ?_);(with_reducible refine ag ?_ ?_);(with_reducible refine qsL 1 ?_ ?_ (hi:=?_) (hx:=?_) (hf:=?_));(exact S);(with_reducible exact Bo);(rfl);(first|exact Or.inl rfl|exact Or.inr rfl);(first|exact .inl rfl|exact .inr rfl|assumption);(refine ag (qs 1 S (aB o6 (pv 1) (Bn))) ?_);(refine ag (mr (xl (pv 1) (qf f (a base) (a2 (pv 0) ai))) (ib rfl (aW (gn 2 S) (aW (gn 3 S) (aW (gn 4 S) fh))))) ?_);(refine ag (qs 5 S (qf f (d base) (a2 (pv 0) ai))) ?_);(refine ag (qs 6 S cf) ?_);(refine ag (qs 7 S (fj vC (xl (qf f (d base) (a2 (pv 0) ai)) ai) iE (fV ai))) ?_);(refine ag (qsc 8 S (gU rfl z.range (a1 (aB bE (aB bE ai (pv 2)) (pv 3)))) (c_ (by decide)) fun _ _ _ _ _ _=>⟨gc 0,fg,aB jC (aB jC (pv 1) (xs' (pv 2) (aB vM (pv 0) ai))) (xs' (pv 2) (aB dW (pv 0) ai))⟩) ?_);(refine ag (qs 9 S (xl (bR (a2 (bh (a2 cf (xl (pv 5) ai))) (bh (a2 cf (xl (pv 5) ai))))) (qf f (a base) (a2 (pv 0) ai)))) ?_);(refine ag (qs 10 S (aB bE ai (qf f (a base) (a2 (pv 0) ai)))) ?_);(refine ag (qs 11 S (aB bE (aB bE ai (pv 2)) (qf f (a base) (a2 (pv 0) (pv 3))))) ?_);(refine ag (qs 12 S (bR (a2 (bh (a3 (xl (pv 8) ai) (bh (a1 cf)) (xl (pv 8) ai))) (bh (a3 (xl (pv 8) ai) (bh (a1 cf)) (xl (pv 8) (pv 11))))))) ?_);(refine ag (cE cq rfl (cL (bR (a2 (bh (a2 ai (pv 2))) (bh (a2 (aB bE ai (pv 2)) (pv 3)))))) (ib rfl (aW (gn 13 S) (aW (gn 14 S) fh))) (am (cE cq rfl (gU rfl z.range (a1 (pv 14))) (gn 15 S) (ag (cK (ky g0 jr jq df (pv 12) (a1 (bh (a3 (xl (pv 8) (aB bE (pv 13) (pv 15))) (pv 9) (xl (pv 8) (aB bE (pv 13) (aB dW (aB bE (pv 15) ai) (pv 14))))))))) (am (cK (ky g0 jr jq df (pv 12) (a1 (bh (a3 (xl (pv 8) (aB bE (pv 13) (pv 15))) (bh (a2 cf (xl (pv 5) ai))) (xl (pv 8) (aB bE (pv 13) (aB dW (aB bE (pv 15) (pv 10)) (pv 14)))))))))))))) ?_);exact(am (aE (bh (a3 (bh (aO (fj nA (pv 5) iE (fV ai)) (a3 (fj nA (pv 5) (fV ai) iE) (pv 8) (pv 12)))) (pv 4) (xl (bR (a2 ai ai)) (jh BQ rfl z.int uz (a1 (DX rY (xt (pv 9) ai) cf)))))))))) (by walk_at "b")
end
theorem Gw(X:K.In h)(G:h.Ns ba mg)(z:Zs mg)(c:Cs K mg C Cx Ct a_STILL a_HUSH C_TooWide C_NoMatch C_NoRight Cf)(T:Ts K C Cx C_TooWide C_NoMatch C_NoRight Cf):∃f fd,mg "law"=some (.ref f)/\(∀(s:Shared) (v:Value),md s fd ⟨[v],[]⟩ [("script",v)])/\∀base:Heap,ig P w K mg base CX0 9 f fd ["script"] (sp_law16 K):=by
 have Y:jL P w K mg:=sX X G z c T;have aC:sM P w K mg:=wK X G z c T;have aN:mS P w K mg:=wL X G z c T;have o:jK P w K mg:=wH X G z c T Y;have as:kL P w K mg:=vq X G z c T o;have a5:pw P w K mg:=yn X G z c T;have y:jo P w K mg:=yo X G z c T;have p:eE P w K mg:=lu X G z c T a5 y;have ab:jN P w K mg:=sZ X G z c T;have q:eF P w K mg:=lA X G z c T y;have e:cr P w K mg:=hV X G z c T;have L:ik P w K mg:=pT X G z c T;have A:ft P w K mg:=mm X G z c T;have B:iL P w K mg:=vp X G z c T;have al:jJ P w K mg:=sW X G z c T p ab q B;have D:fU P w K mg:=ng X G z c T;have E:fS P w K mg:=m_ X G z c T;have a6:pA P w K mg C:=yq X G z c T y e L A B al D E;have O:lR P w K mg C:=rK X G z c T a6;have m:eo P w K mg C:=oS X G z c T;have r:eG P w K mg C:=lp X G z c T;have x:gR P w K mg C:=sV X G z c T m r
 have I:gB P w K mg C:=oU X G z c T;have u:eI P w K mg C:=lr X G z c T;have M:im P w K mg C:=pS X G z c T;have N:il P w K mg C:=pR X G z c T;have ap:jM P w K mg C:=sY X G z c T m x;have Q:i6 P w K mg C:=rM X G z c T x I u;have H:fR P w K mg C a_HUSH:=m9 X G z c T M N;have aT:mR P w K mg C:=wG X G z c T Q H;have d:cN P w K mg C_TooWide Cf:=kg X G z c T;have j:cH P w K mg C C_TooWide Cf:=iq X G z c T aT d;have U:lh P w K mg C C_TooWide Cf:=yr X G z c T ap d j;have n:dF P w K mg:=jU X G z c T;have aX:sP P w K mg C C_TooWide:=wN X G z c T U;have a0:sN P w K mg C C_TooWide:=wM X G z c T U n;have J:sK P w K mg:=wI X G z c T;have a4:sL P w K mg:=wJ X G z c T aN o as;obtain⟨f,a,t⟩:=T.f_law16;obtain⟨oc,od,an,sl,kV,dc,pm,cd,ct,l,c1,k1⟩:=t;have F:=Dn (st:=(ja 49)) l c1 k1;have sc:fo A0 CP (aY (ja 49)):=by walk_at "s"
 have S:=sc.nd;exact⟨f,_,cP X G a,fun s v=>.of_eq rfl,fun base=>F.ok (k:=8) sc (by walk_at "l") (fun _ _ _ _ _ _ _ _ hr h=>by have hu:=sj hr;exact bK (Cz (C:=C) (G7 c.x_TooWide c.x_NoMatch c.x_NoRight c.xt c.xg c.nd) h) (ag (qs 1 S (qf hr (aC base) (a1 (pv 0)))) (ag (mr (qf hr (a4 base) (a1 (pv 1))) (ib rfl (aW (gn 2 S) (aW (gn 3 S) (aW (gn 4 S) fh))))) (ag (qs 5 S (qf hr (O base) (a1 (pv 2)))) (ag (qs 6 S (qf hr (o base) (a2 (pv 1) ai))) (ag (qs 7 S ai) (ag (cE cq rfl (gU rfl z.range (a1 (pv 6))) (gn 8 S) (am (qs 7 S (aB gu (pv 7) (pv 4))))) (ag (qs 9 S rV) (ag (qs 10 S (bR bH)) (ag (As (h_ (qr (vH (i:=9) S rfl (Or.inl rfl) (CY (aX base) (hr.mono (by decide)) rfl (a1 (pv 5)))))) (Hk (i:=11) S rfl rfl rfl c.x_TooWide.g (fun a=>am (qs 10 S (bR (aO (qB nW z.isinstance cA (a2 (pv 11) (qv rfl c.TrialError rfl))) (a3 (qB nW z.isinstance cA (a2 (pv 11) (kR rfl z.ValueError DM rfl))) (qB nW z.isinstance cA (a2 (pv 11) (qv rfl c.x_NoMatch.g rfl))) (qB nW z.isinstance cA (a2 (pv 11) (qv rfl c.x_NoRight.g rfl)))))))) CV)) (ag (qs 12 S rV) (ag (As (h_ (qr (vH (i:=12) S rfl (Or.inl rfl) (CY (a0 base) (hr.mono (by decide)) rfl (a2 (pv 5) (pv 6)))))) (Hj rfl c.x_TooWide.g (fun a=>am (qs 12 S cf)) CV)) (ag (dk (vi AA (pv 3) ai) (am (aE (jB (yM (yN (pv 9))) (jB (DX (Gr hu) (pv 10) (bR (aO fB (a3 fB fB fB)))) (rU (qf hr (J base) (a2 (pv 12) cf))))))) bu) (am (aE (jB (qB d9 z.isinstance cA (a2 (pv 9) (mw rfl z.list))) (jB (DX rY (ql z.len (a1 (pv 9))) (pv 3)) (rU (qf hr (J base) (a2 (pv 12) (pv 7)))))))))))))))))))))⟩
theorem all_mk{l:PySem.W.OpenLaw}{fa:Addr}{e5 qX:Str}{NX:Addr}{e6 cs:Zf}{e7:Zb}{e8:Bool}{ct:Option Bool}{e9:Option Addr}{fc fi fl fn fp:Option Value}{fr qT:Str}{NT:Addr}{fv cB:Zf}{fw:Zb}{fN:Bool}{cC:Option Bool}{fT:Option Addr}{fY f0 f1 f2 f3:Option Value}{c0 f4:Str}{f5:Addr}{c1 bl:Zf}{c2:Zb}{c3:Bool}{bm:Option Bool}{c4:Option Addr}{c5 dc dd di dm:Option Value}{dn f7:Str}{f9:Addr}{dp bn:Zf}{dr:Zb}{ds:Bool}{bq:Option Bool}{dt:Option Addr}{du dx dy dK dT:Option Value}{dV ga:Str}{gd:Addr}{d0 bz:Zf}{d1:Zb}{d2:Bool}{bI:Option Bool}{d3:Option Addr}{d5 d7 d8 ea eb:Option Value}{o:Value}{a:Value}{d:Value}{g:Value}{i:Value}{j:Value}{p:Obj}{q:Array Value}{O:Nat}{I:Obj}{J:Array Value}{aN:Nat}(X:K.In h)(G:h.Ns ba mg)(ge:mg "law"=some (.ref fa))
  (aC:bo K ba "Machine"=some (some (.ref C)))
  (pg:tJ K C Str.empty=true)
  (hd:wn K C=true)
  (po:zQ K C=true)
  (sa:aR K (.ref C) "__setattr__"=some (some (.builtin "object.__setattr__")))
  (mk:pB K C=true)
  (kc:dh K (.ref C)=true)
  (gi:aR K (.ref C) "own_asks"=some none)
  (go:aR K (.ref C) "own_says"=some none)
  (gq:aR K (.ref C) "own_rooms"=some none)
  (gr:aR K (.ref C) "own_doors"=some none)
  (gs:aR K (.ref C) "leaving"=some none)
  (gt:aR K (.ref C) "quiet"=some none)
  (gw:aR K (.ref C) "sign_goals"=some none)
  (gx:aR K (.ref C) "still_led"=some none)
  (gz:bo K ba "FaceMap"=some (some (.ref Cf)))
  (ec:tJ K Cf Str.empty=true)
  (ed:wn K Cf=true)
  (ef:zQ K Cf=true)
  (eg:aR K (.ref Cf) "__setattr__"=some (some (.builtin "object.__setattr__")))
  (ei:pB K Cf=true)
  (ej:dh K (.ref Cf)=true)
  (ek:aR K (.ref Cf) "machine"=some none)
  (el:aR K (.ref Cf) "faces"=some none)
  (em:aR K (.ref Cf) "first_stories"=some none)
  (en:aR K (.ref Cf) "numbers"=some none)
  (ep:aR K (.ref Cf) "steps"=some none)
  (aX:bo K ba "NoMachine"=some (some (.ref Cx)))
  (aT:bo K ba "TrialError"=some (some (.ref Ct)))
  (xo:K.lookup Cx=some (eQ e5 qX Cx NX e6 (.ref Ct::fI) true e7 cs e8 ct e9 fc fi fl fn fp "ValueError.__new__"))
  (er:aR K (.ref Cx) "__setattr__"=some (some (.builtin "object.__setattr__")))
  (es:aR K (.ref Cx) "__getattribute__"=some (some (.builtin "BaseException.__getattribute__")))
  (et:aR K (.ref Cx) "__getattr__"=some none)
  (xp:aR K (.ref Cx) "part"=some none)
  (xn:aR K (.ref Cx) "number"=some none)
  (gI:PySem.W.subIn K (.ref Cx) (.type "BaseException")=some true)
  (gO:PySem.W.isClsIn K Cx=true)
  (gT:PySem.W.typeIn K (.ref Cx)=some (.type "type"))
  (gY:PySem.W.subIn K (.ref Cx) (.ref Cx)=some true)
  (g1:PySem.W.readsIn K Ct (.type "type")=true)
  (g2:PySem.W.findCls K (.ref Ct) (.type "type") "__init__"=some (.val (.builtin "ValueError.__init__")))
  (g3:zP K (.ref Ct) "__getattribute__"=some (some (.builtin "type.__getattribute__")))
  (kx:dh K (.ref Cx)=true)
  (g4:aR K (.ref Cx) "__class__"=some (some (.builtin "object.__class__")))
  (g5:zP K (.builtin "object.__class__") "__get__"=some (some (.builtin "getset_descriptor.__get__")))
  (g8:PySem.W.takesIn K (.builtin "object.__class__")=some true)
  (g9:K.lookup Ct=some (eQ fr qT Ct NT fv fI true fw cB fN cC fT fY f0 f1 f2 f3 "ValueError.__new__"))
  (eu:bo K ba "TooWide"=some (some (.ref C_TooWide)))
  (ev:K.lookup C_TooWide=some (eQ c0 f4 C_TooWide f5 c1 (.ref Ct::fI) true c2 bl c3 bm c4 c5 dc dd di dm "ValueError.__new__"))
  (bS:aR K (.ref C_TooWide) "__setattr__"=some (some (.builtin "object.__setattr__")))
  (b0:aR K (.ref C_TooWide) "__getattribute__"=some (some (.builtin "BaseException.__getattribute__")))
  (b1:aR K (.ref C_TooWide) "__getattr__"=some none)
  (b2:aR K (.ref C_TooWide) "__class__"=some (some (.builtin "object.__class__")))
  (ew:dh K (.ref C_TooWide)=true)
  (ey:aR K (.ref C_TooWide) "__init__"=some (some (.builtin "ValueError.__init__")))
  (eC:bo K ba "NoMatch"=some (some (.ref C_NoMatch)))
  (eH:K.lookup C_NoMatch=some (eQ dn f7 C_NoMatch f9 dp (.ref Ct::fI) true dr bn ds bq dt du dx dy dK dT "ValueError.__new__"))
  (b3:aR K (.ref C_NoMatch) "__setattr__"=some (some (.builtin "object.__setattr__")))
  (b4:aR K (.ref C_NoMatch) "__getattribute__"=some (some (.builtin "BaseException.__getattribute__")))
  (b5:aR K (.ref C_NoMatch) "__getattr__"=some none)
  (b6:aR K (.ref C_NoMatch) "__class__"=some (some (.builtin "object.__class__")))
  (eS:dh K (.ref C_NoMatch)=true)
  (eY:aR K (.ref C_NoMatch) "__init__"=some (some (.builtin "ValueError.__init__")))
  (e1:bo K ba "NoRight"=some (some (.ref C_NoRight)))
  (e2:K.lookup C_NoRight=some (eQ dV ga C_NoRight gd d0 (.ref Ct::fI) true d1 bz d2 bI d3 d5 d7 d8 ea eb "ValueError.__new__"))
  (b7:aR K (.ref C_NoRight) "__setattr__"=some (some (.builtin "object.__setattr__")))
  (b8:aR K (.ref C_NoRight) "__getattribute__"=some (some (.builtin "BaseException.__getattribute__")))
  (ce:aR K (.ref C_NoRight) "__getattr__"=some none)
  (ch:aR K (.ref C_NoRight) "__class__"=some (some (.builtin "object.__class__")))
  (e3:dh K (.ref C_NoRight)=true)
  (e4:aR K (.ref C_NoRight) "__init__"=some (some (.builtin "ValueError.__init__")))
  (nd:[Ct,Cx,C_TooWide,C_NoMatch,C_NoRight].Nodup)
  (r:bo K ba "ValueError"=some none)
  (ci:bo K ba "all"=some none)
  (a0:bo K ba "bool"=some none)
  (a4:bo K ba "dict"=some none)
  (L:bo K ba "enumerate"=some none)
  (ck:bo K ba "int"=some none)
  (t:bo K ba "isinstance"=some none)
  (cl:bo K ba "len"=some none)
  (a5:bo K ba "list"=some none)
  (Q:bo K ba "range"=some none)
  (cm:bo K ba "str"=some none)
  (cn:bo K ba "sum"=some none)
  (U:bo K ba "tuple"=some none)
  (co:bo K ba "zip"=some none)
  (M:bo K ba "LETTERS"=some (some o))
  (N:RelV (.str "abcdefghijklmnopqrstuvwxyz") o)
  (m:bo K ba "LONGEST_NAME"=some (some a))
  (n:RelV (.int 8) a)
  (u:bo K ba "MOST_WORDS"=some (some d))
  (x:RelV (.int 4) d)
  (y:bo K ba "MOST_ROOMS"=some (some g))
  (A:RelV (.int 150) g)
  (B:bo K ba "MOST_DOORS"=some (some i))
  (D:RelV (.int 2000) i)
  (E:bo K ba "MOST_FACES"=some (some j))
  (H:RelV (.int 400) j)
  (Y:bo K ba "STILL"=some (some (.ref a_STILL)))
  (ab:K.lookup a_STILL=some p)
  (al:p.cls=.type "tuple")
  (an:p.data=.seq q O)
  (ap:q.size<=aj)
  (as:aP (aA.map V.str) q.toList)
  (a6:bo K ba "HUSH"=some (some (.ref a_HUSH)))
  (a7:K.lookup a_HUSH=some I)
  (a8:I.cls=.type "tuple")
  (a9:I.data=.seq J aN)
  (bd:J.size<=aj)
  (bi:aP (bU.map V.str) J.toList)
  (T:Ts K C Cx C_TooWide C_NoMatch C_NoRight Cf)
 :∃fd:eX,(∀(s:Shared) (v:Value),md s fd ⟨[v],[]⟩ [("script",v)])/\∀base:Heap,K.In base->base.Ns ba mg->ig l.prog w K mg base CX0 9 fa fd ["script"] (sp_law16 K):=by
 have z:Zs mg:=⟨eN X G r,eN X G ci,eN X G a0,eN X G a4,eN X G L,eN X G ck,eN X G t,eN X G cl,eN X G a5,eN X G Q,eN X G cm,eN X G cn,eN X G U,eN X G co⟩;have c:Cs K mg C Cx Ct a_STILL a_HUSH C_TooWide C_NoMatch C_NoRight Cf:=⟨⟨_,cP X G M,N⟩,⟨_,cP X G m,n⟩,⟨_,cP X G u,x⟩,⟨_,cP X G y,A⟩,⟨_,cP X G B,D⟩,⟨_,cP X G E,H⟩,⟨_,cP X G Y,rfl⟩,⟨_,cP X G a6,rfl⟩,Ab ab al an ap as,Ab a7 a8 a9 bd bi,⟨⟨pg,hd,po,sa⟩,gi,go,gq,gr,gs,gt,gw,gx⟩,cP X G aC,mk,kc,⟨⟨⟨_,_,_,_,_,_,_,_,_,_,_,_,_,_,_,xo,.own .base⟩,er,es,et⟩,xp,xn,GD gI gO gT gY⟩,⟨g1,g2,g3⟩,cP X G aX,cP X G aT,kx,⟨⟨_,_,_,_,_,_,_,_,_,_,_,_,_,_,g9⟩⟩,⟨g5,g8⟩,⟨cP X G aX,⟨⟨_,_,_,_,_,_,_,_,_,_,_,_,_,_,xo⟩⟩,er,es,et,kx,g4⟩,nd,⟨cP X G eu,⟨⟨_,_,_,_,_,_,_,_,_,_,_,_,_,_,ev⟩⟩,bS,b0,b1,ew,b2⟩,ey,⟨cP X G eC,⟨⟨_,_,_,_,_,_,_,_,_,_,_,_,_,_,eH⟩⟩,b3,b4,b5,eS,b6⟩,eY,⟨cP X G e1,⟨⟨_,_,_,_,_,_,_,_,_,_,_,_,_,_,e2⟩⟩,b7,b8,ce,e3,ch⟩,e4,⟨⟨ec,ed,ef,eg⟩,ek,el,em,en,ep⟩,cP X G gz,ei,ej⟩;obtain⟨f,fd,e,b,k⟩:=Gw (P:=l.prog) (w:=w) X G z c T;have e0:=ge.symm.trans e;cases e0;exact⟨fd,b,fun base _ _=>k base⟩
end
end Mum
namespace PySem.W.Fast
def tw6288512454673602934:=0
def tw12983094132060762897:=0
def tw16414955772567042001:=0
def tw183438747435212908:=0
def tw4950025984593759296:=0
def tw17161495408409166142:=0
def tw14004370003343634887:=0
def tw14069230123790203926:=0
def tw13987459789610733794:=0
def tw14566232710705587560:=0
def tw17811033654862910954:=0
def tw51885577376359219:=0
def tw5146833197444599217:=0
def tw8520755224839398872:=0
def tw4910569877027718151:=0
def tw18148486963716789251:=0
def tw4261523131734057844:=0
def tw12751042604109007158:=0
def tw15630596487053014140:=0
def tw9466876409553047334:=0
def tw2274274603254725997:=0
def tw18268201230602005352:=0
def tw3829128636762777007:=0
def tw6456935748206479074:=0
def tw13353231946738704692:=0
def tw11765988197739003869:=0
def tw10376323736170105641:=0
def tw12608554528382919409:=0
def tw6500053784357311598:=0
def tw10794013821171328764:=0
def tw11439381587379317880:=0
def tw8155781059034481616:=0
def tw10484590963405160754:=0
def tw6286905587948275827:=0
def tw16572348036761162889:=0
def tw15844799201518976280:=0
def tw15995499792893985958:=0
def tw13014417914635505500:=0
def tw3241416560381040627:=0
def tw11748787961081968858:=0
def tw12947583853724315063:=0
def tw6025342837880712565:=0
def tw4688820843038250367:=0
def tw11721905269825601717:=0
def tw15929525146615290425:=0
def tw13682347978871253059:=0
def tw7364998601965488250:=0
def tw355204207622415560:=0
def tw12475063920734812019:=0
def tw6077184343341884261:=0
def tw1698324015488242481:=0
def tw11402385656962470678:=0
def tw1880962567521694299:=0
def tw6473978755397141925:=0
def tw4383336685546388745:=0
def tw2435473578421988772:=0
def tw1392757723816532268:=0
def tw4629505760180929931:=0
def tw17665448086215629341:=0
def tw7160349875733269994:=0
def tw12958757938990963126:=0
def tw4348225091479092124:=0
def tw16070598433789382395:=0
def tw9125552320864090966:=0
def tw16231338734809328880:=0
def tw10465744696341990560:=0
def tw3764212131782485661:=0
def tw8628457196287382671:=0
def tw9085058423670746311:=0
def tw18342354270505594923:=0
def tw11636528055808648575:=0
def tw2841443769613738659:=0
def tw13028551233806766326:=0
def tw14055047898467392122:=0
def tw9088705022225664636:=0
def tw17979863489057138792:=0
def tw15836641474617142319:=0
def tw13664995928114100939:=0
def tw10570452748364876941:=0
def tw13865582520526927213:=0
def tw3704388998618238405:=0
def tw16437565965351911857:=0
def tw1431352932165290077:=0
def tw15282653862452660500:=0
def tw16838872150691668117:=0
def tw2951535732884124118:=0
def tw5196904741661472068:=0
def tw16804426871271872132:=0
def tw8490363184708564365:=0
def tw14129659519450907307:=0
def tw1081401741516213235:=0
def tw1868004442727957817:=0
def tw1033465244175675344:=0
def tw13157020589899147654:=0
def tw8468081252257385329:=0
def tw8893749841587268216:=0
def tw9259336478794031433:=0
def tw2481268664675780808:=0
def tw5186041555180129343:=0
def tw7991406134682764328:=0
def tw16283412209197873041:=0
def tw1812208492349399683:=0
def tw5820961772167451239:=0
def tw12529529217627622997:=0
def tw17210621972087398601:=0
def tw6216430073553944973:=0
def tw17367484733665668958:=0
def tw1338663731048083215:=0
def tw8606432058550220151:=0
def tw7285210707398096760:=0
def tw11702667319705043330:=0
def tw12366274840534525157:=0
def tw6677817541302471124:=0
def tw2794666759434435624:=0
def tw5977006768792488596:=0
def tw14156966782148825852:=0
def tw14115926670727221964:=0
def tw3520229747260372741:=0
def tw11529271166579454094:=0
def tw11053304444122708669:=0
def tw2966080710366366851:=0
def tw17133763492627303399:=0
def tw9737089897769748114:=0
def tw6846319268707106717:=0
def tw4127208880580202554:=0
def tw9747894980568674931:=0
def tw16303570925835100450:=0
def tw8431178280826670436:=0
def tw12085384035049981468:=0
def tw1110521633979052163:=0
def tw5213284131975673684:=0
def tw11086387289817147508:=0
def tw11085240310455237849:=0
def tw2340214429639719333:=0
def tw8028986403433835413:=0
def tw4444299108805836706:=0
def tw6433776011905264595:=0
def tw10790254267364374562:=0
def tw13752157038636443349:=0
def tw5016550020835075073:=0
def tw14036183069053124381:=0
def tw7849984312869098546:=0
def tw684327570315786878:=0
def tw1527626675520145701:=0
def tw11539041083410479332:=0
def tw16213256564941395706:=0
def tw3385067190703711986:=0
def tw10026475847871852317:=0
def tw14856556091050087342:=0
def tw12930986640110362220:=0
def tw7563884250734396650:=0
def tw16795817029589067981:=0
def tw203300606438741373:=0
def tw13381782386455868018:=0
def tw14609447638880827310:=0
def tw15346874068503514659:=0
def tw5147637580329195565:=0
def tw2021485938362657527:=0
def tw18385802497737166532:=0
def tw7282515506305619738:=0
def tw1054218516874213735:=0
def tw13839718259768461885:=0
def tw403820908807612156:=0
def tw3906694800845745512:=0
def tw9221505474381346671:=0
def tw5268512100257216098:=0
def tw15908799378590397099:=0
def tw4398449030043200130:=0
def tw4586879115623093877:=0
def tw10525264875124984700:=0
def tw16313166686836226986:=0
def tw17810329958971787969:=0
def tw14051330771347449193:=0
def tw12183362283452019947:=0
def tw1641214697821475717:=0
def tw4516995212108301945:=0
def tw18433740403228616827:=0
def tw15123356665612013077:=0
def tw8864194854198655230:=0
def tw4648729417832821329:=0
def tw2904930495000975827:=0
def tw8420906126854355124:=0
def tw9873705796690572677:=0
def tw8053060015189883584:=0
def tw5391020869597842461:=0
def tw6467733285848770289:=0
def tw10022759518438314276:=0
def tw15456911832461396316:=0
def tw16691749995959880836:=0
def tw2698872345819049781:=0
def tw9099128926747621772:=0
def tw17296400538373773356:=0
def tw12072648495415992793:=0
def tw16071972078223177480:=0
def tw1127613092059222669:=0
def tw1502334867489165678:=0
def tw16906748942898018018:=0
def tw13941764072989666595:=0
def tw17183658040669956318:=0
def tw407591568170587502:=0
def tw6444328897319501899:=0
def tw14635472547285126878:=0
def tw14901790436499823022:=0
def tw49380187444351615:=0
def tw11643873937122753162:=0
def tw16959879744039110818:=0
def tw9176608356501707682:=0
def tw3505899167943218178:=0
def tw2747970794662397015:=0
def tw4106378171303118310:=0
def tw8881759697117261192:=0
def tw77670400700537001:=0
def tw1001602116899698071:=0
def tw8692623169337972219:=0
def tw2267007166181884391:=0
def tw14242511500207708044:=0
def tw9615096234356732500:=0
def tw9754290010017543299:=0
def tw611569492223742713:=0
def tw5262144286609724474:=0
def tw8502913160775813668:=0
def tw4570026218558049745:=0
def tw13881673953220827320:=0
def tw8136416804224130492:=0
def tw1578215344083033762:=0
def tw11444198903959119925:=0
def tw3690356954534599125:=0
def tw16133223701461567330:=0
def tw18029743473037544863:=0
def tw10412754976742445921:=0
def tw12670347597291879615:=0
def tw4382468199365452329:=0
def tw6965985198851102344:=0
def tw15991358474759962173:=0
def tw6227962205614080269:=0
def tw3850750481314207254:=0
def tw17527089839347604743:=0
def tw16835508357780148584:=0
def tw17497685321552363208:=0
def tw3891870821386289425:=0
def tw1268067774338633627:=0
def tw13862331738563927950:=0
def tw12193449993888781457:=0
def tw6471868295188937982:=0
def tw1274973802340642637:=0
def tw7630754681026802057:=0
def tw15356199879703717830:=0
def tw7233872753873592835:=0
def tw323086879034022820:=0
def tw16331471244469245245:=0
def tw9550263729035158636:=0
def tw11223382296947909855:=0
def tw10637581177495093818:=0
def tw6500814396680915732:=0
def tw607052109240630122:=0
def tw6592397320406465172:=0
def tw269807903190332772:=0
def tw15324980698755755986:=0
def tw15733691248076776930:=0
def tw12070482784414041061:=0
def tw2004051302248518508:=0
def tw15499581340058377093:=0
def tw10782929117712668967:=0
def tw16088413314533542983:=0
def tw16521210599379089406:=0
def tw17013879047692635268:=0
def tw16384793223186594193:=0
def tw10391818802767665671:=0
def tw13812469943148572672:=0
def tw6423035401396283618:=0
def tw13502059749674367748:=0
def tw12776701938682977493:=0
def tw8468542327066028953:=0
def tw4911077033993092486:=0
def tw4207016824789362204:=0
def tw12838493246792737487:=0
def tw9291794844936710236:=0
def tw10358683777529733857:=0
def tw1847143125301728610:=0
def tw884095318001087241:=0
def tw4874577013405349081:=0
def tw1932534227880958811:=0
def tw3196941292789808588:=0
def tw6583695017042199837:=0
def tw8679110551943446724:=0
def tw9432472806031614050:=0
def tw9711957249781448064:=0
def tw2060558418556428439:=0
def tw8550902834120304976:=0
def tw5653332413468852903:=0
def tw5270508657828309344:=0
def tw15688154980594054829:=0
def tw10675386246183278350:=0
def tw2937487311422295964:=0
def tw14747173154584332954:=0
def tw4352828798160560760:=0
def tw2136652559722294575:=0
def tw18302289067833712479:=0
def tw2889182325159072540:=0
def tw1398861837343536671:=0
def tw13944163176517822320:=0
def tw1337908001951838445:=0
def tw10351397734452217779:=0
def tw14891540014366372476:=0
def tw12433050220759655122:=0
def tw3887601316913823376:=0
def tw3981956370392366912:=0
def tw8681038495235989347:=0
def tw11256855160042450471:=0
def tw6081918530547240915:=0
def tw16930410752672625797:=0
def tw11727260011812151144:=0
def tw18014001881006343672:=0
def tw8602489206897190561:=0
def tw16299534352422457715:=0
def tw14679680075510166318:=0
def tw17916751769332033725:=0
def tw1564142674832961857:=0
def tw12431106953138517308:=0
def tw10672194488071341631:=0
def tw15813716912370163245:=0
def tw13238865238617259729:=0
def tw128441103393399175:=0
def tw1699521481317669545:=0
def tw3165882498326093991:=0
def tw14407401655480308619:=0
def tw16238114361450607303:=0
def tw13040948847883698081:=0
def tw17601037417496624290:=0
def tw1081145658879632220:=0
def tw89187299514566910:=0
def tw6839874437837311457:=0
def tw11057753857745865384:=0
def tw16995410191159427651:=0
def tw15138752236483270462:=0
def tw14853875434187772885:=0
def tw8779635610350468675:=0
def tw16833319638687559147:=0
def tw10856942975790299525:=0
def tw15095977655267429942:=0
def tw12495200935193994479:=0
def tw9613571662008691004:=0
def tw12989305484659450158:=0
def tw2321555538052676785:=0
def tw15200691255223043449:=0
def tw7249381462430195577:=0
def tw766900487154075956:=0
def tw7921825646327354384:=0
def tw594013549315756882:=0
def tw8011501630715597901:=0
def tw3645395453252067196:=0
def tw1555371342560677417:=0
def tw14865314827592156922:=0
def tw9375760132782832872:=0
def tw8520497347791382160:=0
def tw1022933981473183453:=0
def tw13927049037886601799:=0
def tw3302063629714995862:=0
def tw13303917050074059651:=0
def tw3920943846527240962:=0
def tw12796670649725089290:=0
def tw6026010294830510332:=0
def tw15562632731667445377:=0
def tw10410929092560915688:=0
def tw11730876367028683922:=0
def tw5725360516019732263:=0
def tw16618790512559774970:=0
def tw16032093057910193135:=0
def tw649236651933920477:=0
end PySem.W.Fast
open PySem PySem.W PyProof.Rows
set_option maxRecDepth 100000 in
set_option maxHeartbeats 0 in
theorem PySem.Challenge.cw_mumtrial_k16_wide_holds : PySem.Challenge.rw_mumtrial_k16_wide.Holds := by
 w_on;o_law;k_head;(case hw=>w_witness2)
 k_fill
 refine L2.walk_ofK (l:=PySem.Challenge.rw_mumtrial_k16_wide) (n:=63) (k:=9) (x:="script") (CX:=L2.CX0) (sp:=Mum.sp_law16) rfl (by decide) rfl ⟨rfl,by decide,by decide⟩ (fun w h Y=>PySem.W.kIn_of Y) ?F (fun _ _ a ns hl _ hS=>⟨a,ns,rfl,hS,hl,fun _=>rfl⟩) (fun _ _ _ _ z=>z)
 case F =>
  intro w mg fa h KX G hmg;refine' Mum.all_mk KX G hmg ?aC ?pg ?hd ?po ?sa ?mk ?kc ?na1 ?na2 ?na3 ?na4 ?na5 ?na6 ?na7 ?na8 ?afc ?pgfc ?hdfc ?pofc ?safc ?mkfc ?kcfc ?nfc1 ?nfc2 ?nfc3 ?nfc4 ?nfc5 ?aX ?aT ?xo ?xsa ?xga ?xgx ?xp ?xn ?xs1 ?xs2 ?xs3 ?xs4 ?xrd ?xfi ?xgt ?kx ?xcl ?xgn ?xgk ?xoT ?aXY0 ?xoY0 ?xsaY0 ?xgaY0 ?xgxY0 ?xclY0 ?kxY0 ?xiY0 ?aXY1 ?xoY1 ?xsaY1 ?xgaY1 ?xgxY1 ?xclY1 ?kxY1 ?xiY1 ?aXY2 ?xoY2 ?xsaY2 ?xgaY2 ?xgxY2 ?xclY2 ?kxY2 ?xiY2 ?nd ?z_ValueError ?z_all ?z_bool ?z_dict ?z_enumerate ?z_int ?z_isinstance ?z_len ?z_list ?z_range ?z_str ?z_sum ?z_tuple ?z_zip ?g_LETTERS ?r_LETTERS ?g_LONGEST_NAME ?r_LONGEST_NAME ?g_MOST_WORDS ?r_MOST_WORDS ?g_MOST_ROOMS ?r_MOST_ROOMS ?g_MOST_DOORS ?r_MOST_DOORS ?g_MOST_FACES ?r_MOST_FACES ?g_STILL ?l_STILL ?c_STILL ?d_STILL ?s_STILL ?v_STILL ?g_HUSH ?l_HUSH ?c_HUSH ?d_HUSH ?s_HUSH ?v_HUSH ?T
  (case aC|pg|hd|po|sa|mk|kc|na1|na2|na3|na4|na5|na6|na7|na8|afc|pgfc|hdfc|pofc|safc|mkfc|kcfc|nfc1|nfc2|nfc3|nfc4|nfc5|aX|aT|xo|xsa|xga|xgx|xp|xn|xs1|xs2|xs3|xs4|xrd|xfi|xgt|kx|xcl|xgn|xgk|xoT|aXY0|xoY0|xsaY0|xgaY0|xgxY0|xclY0|kxY0|xiY0|aXY1|xoY1|xsaY1|xgaY1|xgxY1|xclY1|kxY1|xiY1|aXY2|xoY2|xsaY2|xgaY2|xgxY2|xclY2|kxY2|xiY2=>k_is)
  (case nd=>decide)
  (case z_ValueError|z_all|z_bool|z_dict|z_enumerate|z_int|z_isinstance|z_len|z_list|z_range|z_str|z_sum|z_tuple|z_zip|g_LETTERS=>k_is)
  (case r_LETTERS=>exact⟨_,rfl⟩)
  (case g_LONGEST_NAME=>k_is)
  (case r_LONGEST_NAME=>exact⟨_,rfl⟩)
  (case g_MOST_WORDS=>k_is)
  (case r_MOST_WORDS=>exact⟨_,rfl⟩)
  (case g_MOST_ROOMS=>k_is)
  (case r_MOST_ROOMS=>exact⟨_,rfl⟩)
  (case g_MOST_DOORS=>k_is)
  (case r_MOST_DOORS=>exact⟨_,rfl⟩)
  (case g_MOST_FACES=>k_is)
  (case r_MOST_FACES=>exact⟨_,rfl⟩)
  (case g_STILL|l_STILL=>k_is)
  (case c_STILL|d_STILL=>rfl)
  (case s_STILL=>decide)
  (case v_STILL=>exact .cons ⟨_,rfl⟩ .nil)
  (case g_HUSH|l_HUSH=>k_is)
  (case c_HUSH|d_HUSH=>rfl)
  (case s_HUSH=>decide)
  (case v_HUSH=>exact .cons ⟨_,rfl⟩ .nil)
  (case T=>constructor<;>first|(refine' Mum.fnG_mk ?a ?l ?c ?k;(case a=>k_is);(case l=>k_is);(case c=>k_is);(case k=>k_is))|(refine' Mum.fnM_mk ?a ?i ?l ?c ?k;(case a=>k_is);(case i=>k_is);(case l=>k_is);(case c=>k_is);(case k=>k_is)))
