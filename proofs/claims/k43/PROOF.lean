
import PyProof.Rows.All
import Wide.All
import OpenK.AllK
import Wide.FinOn
import Lean
import PyProof.EqAt
import PyProof.EqKinds
import PyProof.TupleCall
import PyProof.NeKinds
import PyProof.RaisesMany
import PyProof.RulesAs
import PyProof.NsDelKeeps
import PyProof.InstStoreFacts
import PyProof.ExcClass3
import PyProof.ExcInit
import KE.KTryMore
import PyProof.AutoSeq1
import PyProof.WalkInts
import PyProof.DictIter
import PyProof.DictWalks
import PyProof.DictItems
import PyProof.DictItemsLoops
import KE.KPairComp
import PyProof.DictValues
import PyProof.SumAny
import PyProof.Rows.SumAny
import PyProof.Rows.RuleDivmod
import KE.KRevIter
import PyProof.TupleOfGen
import KE.KMinKey
import PyProof.Rows.CallKwBuiltin
import KE.IntBitsLaws
import PySem.Challenge.RW_mumtrial_k43_number_of_a_trial
noncomputable section
open PySem renaming Program->bZ,reduceHash->Hl,wpAny_mono->pU,wpAny_bind->am,wpAny_specialOf->Fv,wpAny_call_entry->yq,wpAny_pure->aR,wpAny_rule->sY,Builtin->cc,wpAny_isInstance->Be,wpAny_holding->j6,wpAny_truthy_bool->uO,wpAny_seqItems->ow,sizeLine->aj,sysModules->iU,mainGlobals->ca,bootBuiltins->lV,starEach->aK,compareOp->fO,behindInMarks->lF,standAt->sW,holding->lU,wpAny_execs_nil->El,swapsWith->sV,assignEach->xm,wpAny_passesOwn->uD,letOwnedTupleGo->Ek,wpAny_pyIter_list->uC,foldedSetIterable->Bd,binaryOp->j3,sizeLine_eq->xk,getMethod->sT,codeAny->zzl77,attributeBase->xi,FuncData->lE,BindsTo->uz,codeAny_mono->Ef,wpAny_Call_Name_kw->Ee,callWith->xh,backToKw->pP,keywordEach->pO,NameKind->jZ,mem_of_lookup->u6,typeLookup->u3,getItem->oP,subscripted->y1,sliceBounds->oO,Keyword->rG,call_meets->uZ,valueAt->oN,call_meetsIn->uX,callerA->mh,DictEntry->mf,wpAny_newObj_type->rC,ZipApart->md,wpAny_pyIter_zip->uU,wpAny_dictEntries->yS,codeAny_builtin->l9,wpAny_typeOf->yR,plainId_quiet->oK,wpAny_attempt->rq,wpAny_callSpecial?_slot->rp,wpAny_typeNameOfWhole_keyiter->yQ,wpAny_typeNameOf_keyiter->yP,wpAny_field->gR,wpAny_setField_rec->rm,wpAny_nextOf_list_item->rk,updateSeq->uN,wpAny_updateSeq->uM,wpAny_onRaise->yJ,intBits_mul_le->yC,intBits_add_le->uG
open PySem.Builtin.Tuple renaming tupleHashOf->CN
open Bool renaming false_ne_true->jc,not_true->Eo,false_eq_true->l_,eq_iff_iff->Bc,true_and->uI
open Array renaming forIn_toList->JB,length_toList->lT,getElem?_eq_getElem->kL,getElem?_eq_none->uQ
open Nat renaming add_assoc->Ep,le_refl->aB,lt_of_lt_of_le->dZ,lt_irrefl->lG,ne_of_lt->cX,le_trans->aD,le_of_lt->cW,ne_of_gt->eX,zero_le->cL,lt_succ_self->Eh,le_succ->Ed,lt_of_le_of_lt->uV,le_add_right->fo,min_eq_left->uL,mod_lt->uK,succ_mul->fk,mul_le_mul_right->c7,succ_le_succ->yv
open List renaming append_nil->eZ,range->pT,mem_filter->fZ,mem_cons_self->dQ,mem_cons_of_mem->dY,mem_cons->cn,mem_append->bL,mem_append_left->dz,getElem?_eq_some_iff->cj,getElem?_set_ne->Em,mem_append_right->dP,length_cons->gC,lookup->ia,map_cons->bF,length_map->ah,nodup_cons->h_,of_mem_zip->y3,replicate->fT,length_take->aA,getElem?_append_right->u5,getElem?_append_left->u4,getElem?_map->cC,mem_of_getElem?->bQ,length_append->aO,size_toArray->cf,length_drop->eF,length_set->kM,reverse_cons->rF,length_reverse->iN,find?_cons->rE,any_cons->yZ,nodup_nil->ml,map_nil->yX,lookup_cons->je,forIn_cons->oM,mem_map->aV,not_mem_nil->iM,getElem?_eq_none->yV,any_toArray->yU,drop_zero->uS,take_length->bb,getElem?_eq_getElem->bM,mem_singleton->eE,map_append->ax,nodup_append->d7,drop_of_length_le->rA,drop_eq_getElem_cons->l6,take_of_length_le->uP,forIn_nil->yO,getElem?_of_mem->kK,map_take->yI,map_drop->yH,map_set->yG,drop_length->oH,mem_of_mem_take->gQ,mem_of_mem_drop->yF,append_assoc->fS,nodup_iff_pairwise_ne->yE,map_map->jR,sum_cons->oG,mem_map_of_mem->lW,take_zero->uH,length_filter_le->dk,filter_append->jd,map_eq_nil_iff->yD,filter_cons_of_neg->yz,filter_cons_of_pos->yy,zipWith->fR,length_zipWith->uE,getElem?_zipWith->yu,length_zip->kG,getElem?_zip_eq_some->yt,mem_or_eq_of_mem_set->yr
open Option.some renaming inj->f6
open PySem.W renaming instObj->sX,lookIn->Ej,plainGet->uA,hasDictIn->xj,findIn->dX,isFn->Bb,plainOver->Ba,makesIn->pR,emptyDict->pQ,keepIn->iC,fnOf->jf,codeIn->oR,nsIn->cw,mg_of->d6,mg_none_of->iJ
open PySem.Heap renaming lt_size->aM,SameBut->iT,get?_push_of_some->a_,get?_push_size->dh,size_push->oq,get?_update_self->mm,get?_update_other->rH
open PyProof.Rows renaming AllBare->pS,callWith_type1->sU,IntsAre->uW
open Ne renaming symm->b_
open False renaming elim->j4
open PySem.Str renaming empty->Ei,ofString->oJ
open True renaming intro->sS
open PySem.Calls renaming spliced_nil->Eg,spliced_cons->A_,callWith_builtin->y0
open Option renaming isSome_iff_exists->y2,map_some->uY,map_eq_some_iff->kH
open Int renaming toNat_natCast->oQ,emod_nonneg->kJ,emod_lt_of_pos->kI,le_refl->rg,eq_ofNat_of_zero_le->oI,toNat->uJ,le_of_lt->uF
open PySem.Obj renaming mapSeq->iO
open PySem.Paired renaming snoc->d_
open PySem.F renaming slot_dict_get->rD,entry_dict_get->yY,slot_dict_keyiterator_next->uR,slot_zip_next->lX,entry_zip_next->yN,args_zip_next_1->yM,plain_extend_loop->rh,plainAttrs_list->fQ,slot_list_append->iL,type_list_append->iK
open ForInStep renaming yield->yW
open PySem.NameKind renaming free->me
open PySem.SeqAt renaming EqAt->br
open PySem.Builtin.Str renaming strSliceIndices->uT
open PySem.Txt renaming join->yT
open PySem.Heap.SameBut renaming update->rB
open PySem.Around renaming under_plainId->l7
open PySem.Builtin.SmallTypes renaming ownedTupleIsFree->lZ,nextOf->lY
open PySem.Shared renaming heap->yL
open PySem.IntMulOk renaming of_le->yB
open PySem.PassesOwn renaming never->bw
theorem Q0:0<=PySem.sizeLine:=by decide
theorem Q1:1<=PySem.sizeLine:=by decide
theorem Q2:2<=PySem.sizeLine:=by decide
theorem Q3:3<=PySem.sizeLine:=by decide
theorem Q4:4<=PySem.sizeLine:=by decide
theorem Q6:6<=PySem.sizeLine:=by decide
theorem zzr0{p:Prop}[Decidable p](h:¬p):decide p=false:=decide_eq_false h
theorem zzr1{p:Prop}[Decidable p](h:p):decide p=true:=decide_eq_true h
abbrev Za:=PySem.W.Frag
abbrev Zb:=List PySem.Str
abbrev Zc:=PySem.Value->PySem.Shared->Prop
abbrev Zd:=List (PySem.Addr×PySem.Obj)
abbrev Ze:=List PySem.Addr
abbrev Zf:=List PySem.Value
section
set_option Elab.async false
set_option linter.all false
set_option maxRecDepth 100000
set_option maxHeartbeats 4000000
namespace L2
open PySem PySem.Spec PyProof.Rows
open Sem (wp)
abbrev ge:=Sum Int Str
def dU:ge->Value->Bool
 |.inl k,v=>Value.isInt k v
 |.inr x,v=>Value.isStrOf x v
def MD(w:World):ge->Int
 |.inl k=>hashInt k
 |.inr x=>hashStr w x
theorem aF:∀{k:ge}{v:Value},dU k v=true->(∃i t,k=Sum.inl i/\v=Value.int i t)∨(∃x t,k=Sum.inr x/\v=Value.str x t)
 |.inl i,v,h=>by
  obtain⟨t,e⟩:=Value.isInt_shape (k:=i) (v:=v) h;exact .inl ⟨i,t,rfl,e⟩
 |.inr x,v,h=>by
  obtain⟨t,e⟩:=Value.isStrOf_shape (x:=x) (v:=v) h;exact .inr ⟨x,t,rfl,e⟩
theorem nG(i:Int)(t:Tok):dU (.inl i) (.int i t)=true:=by simp[dU,Value.isInt]
theorem nF(x:Str)(t:Tok):dU (.inr x) (.str x t)=true:=by simp[dU,Value.isStrOf]
theorem Ap(a b:Int):decide ((Sum.inl a:ge)=Sum.inl b)=(a==b):=by
 by_cases e:a=b
 ·subst e;simp
 ·have h:¬(Sum.inl a:ge)=Sum.inl b:=fun q=>e (Sum.inl.inj q);rw[zzr0 h];exact(beq_eq_false_iff_ne.mpr e).symm
theorem Al(a b:Str):decide ((Sum.inr a:ge)=Sum.inr b)=decide (a=b):=by
 by_cases e:a=b
 ·subst e;simp
 ·have h:¬(Sum.inr a:ge)=Sum.inr b:=fun q=>e (Sum.inr.inj q);rw[zzr0 h,zzr0 e]
theorem Ao(a:Int)(b:Str):decide ((Sum.inl a:ge)=Sum.inr b)=false:=zzr0 (fun q=>nomatch q)
theorem Am(a:Str)(b:Int):decide ((Sum.inr a:ge)=Sum.inl b)=false:=zzr0 (fun q=>nomatch q)
def cI(prog:bZ)(w:World):PySem.KeyKind prog w ge where
 is:=dU
 hash:=MD w
 inj:=fun v a b ha hb=>by
  rcases aF ha with⟨i,t,rfl,rfl⟩|⟨x,t,rfl,rfl⟩
  ·rcases aF hb with⟨j,u,rfl,e⟩|⟨y,u,rfl,e⟩
   ·injection e with e1 _;rw[e1]
   ·exact nomatch e
  ·rcases aF hb with⟨j,u,rfl,e⟩|⟨y,u,rfl,e⟩
   ·exact nomatch e
   ·injection e with e1 _;rw[e1]
 byValue:=fun k v h=>by
  rcases aF h with⟨i,t,rfl,rfl⟩|⟨x,t,rfl,rfl⟩<;>rfl
 pyHash:=fun hv h=>by
  rcases aF hv with⟨i,t,rfl,rfl⟩|⟨x,t,rfl,rfl⟩
  ·exact wpAny_pyHash_int h
  ·exact wpAny_pyHash_str h
 eqBool:=fun hu hv h=>by
  rcases aF hu with⟨i,t,rfl,rfl⟩|⟨x,t,rfl,rfl⟩
  ·rcases aF hv with⟨j,u,rfl,rfl⟩|⟨y,u,rfl,rfl⟩
   ·rw[Ap]at h;exact wpAny_eqBool_int h
   ·rw[Ao]at h;exact br.int_str i t y u _ _ _ _ h
  ·rcases aF hv with⟨j,u,rfl,rfl⟩|⟨y,u,rfl,rfl⟩
   ·rw[Am]at h;exact br.str_int x t j u _ _ _ _ h
   ·rw[Al]at h;exact wpAny_eqBool_str h
 «strs»:=fun k x t v h=>by
  rcases aF h with⟨i,u,rfl,e⟩|⟨y,u,rfl,e⟩
  ·exact nomatch e
  ·injection e with e1 _;subst e1;cases v<;>rfl
theorem BY(a:bZ)(w:World)(i:Int)(t:Tok):(cI a w).is (.inl i) (.int i t)=true:=nG i t
theorem BX(a:bZ)(w:World)(x:Str)(t:Tok):(cI a w).is (.inr x) (.str x t)=true:=nF x t
end L2
namespace L2
open PySem PySem.Spec PyProof.Rows
open Sem (wp)
abbrev pJ:=Option ge
def jt:pJ->Value->Bool
 |none,v=>match v with
  |.none=>true
  |_=>false
 |some k,v=>dU k v
def Lg(w:World):pJ->Int
 |none=>Hl 4238894112
 |some k=>MD w k
theorem ci:∀{k:pJ}{v:Value},jt k v=true->(∃i t,k=some (Sum.inl i)/\v=Value.int i t)∨(∃x t,k=some (Sum.inr x)/\v=Value.str x t)∨(k=none/\v=Value.none)
 |none,v,h=>by
  refine .inr (.inr ⟨rfl,?_⟩);cases v<;>first|rfl|cases h
 |some k,v,h=>by
  rcases aF (show dU k v=true from h)with⟨i,t,rfl,rfl⟩|⟨i,t,rfl,rfl⟩
  ·exact .inl ⟨i,t,rfl,rfl⟩
  ·exact .inr (.inl ⟨i,t,rfl,rfl⟩)
theorem vR{a b:pJ}{v:Value}(f:jt a v=true)(g:jt b v=true):a=b:=by
 rcases ci f with⟨i,t,rfl,rfl⟩|⟨i,t,rfl,rfl⟩|⟨rfl,rfl⟩<;>rcases ci g with⟨j,u,rfl,e⟩|⟨j,u,rfl,e⟩|⟨rfl,e⟩<;>first|rfl|(cases e;rfl)|cases e
def BW(prog:bZ)(w:World):PySem.KeyKind prog w pJ where
 is:=jt
 hash:=Lg w
 inj:=fun v a b ha hb=>vR ha hb
 byValue:=fun k v h=>by
  rcases ci h with⟨i,t,rfl,rfl⟩|⟨x,t,rfl,rfl⟩|⟨rfl,rfl⟩<;>rfl
 pyHash:=fun{A E s k v Q} hv h=>by
  rcases ci hv with⟨i,t,rfl,rfl⟩|⟨x,t,rfl,rfl⟩|⟨rfl,rfl⟩
  ·exact wpAny_pyHash_int h
  ·exact wpAny_pyHash_str h
  ·refine PySem.W.pyHash_slot (T:="NoneType") rfl F.slot_NoneType_hash F.entry_NoneType_hash (F.args_NoneType_hash_1 _) (by rw[beq_builtin_none]) (.inl rfl) ?_;show wpAny _ _ (retInt 4238894112) _ _ _;refine pU (wpAny_ret_mkInt (Q:=fun v s'=>∃n t,v=Value.int n t/\Q (Hl n) s') ⟨_,_,rfl,h⟩) (fun fin s' ⟨v,e,n,t,e2,q⟩=>⟨n,t,by rw[e,e2],q⟩) (fun _ _ z=>z)
 eqBool:=fun{A E s a b u v Q} hu hv h=>by
  rcases ci hu with⟨i,t,rfl,rfl⟩|⟨x,t,rfl,rfl⟩|⟨rfl,rfl⟩
  ·rcases ci hv with⟨j,u,rfl,rfl⟩|⟨y,u,rfl,rfl⟩|⟨rfl,rfl⟩
   ·exact(cI prog w).eqBool (a:=.inl i) (b:=.inl j) (nG i t) (nG j u) (by rw[show decide ((Sum.inl i:ge)=Sum.inl j)=decide ((some (Sum.inl i):pJ)=some (Sum.inl j))from decide_eq_decide.mpr ⟨fun z=>by rw[z],fun z=>by injection z⟩];exact h)
   ·rw[zzr0 (by intro z;injection z with z;cases z)]at h;exact br.int_str i t y u _ _ _ _ h
   ·rw[zzr0 (by intro z;cases z)]at h;exact br.int_none i t _ _ _ _ h
  ·rcases ci hv with⟨j,u,rfl,rfl⟩|⟨y,u,rfl,rfl⟩|⟨rfl,rfl⟩
   ·rw[zzr0 (by intro z;injection z with z;cases z)]at h;exact br.str_int x t j u _ _ _ _ h
   ·exact(cI prog w).eqBool (a:=.inr x) (b:=.inr y) (nF x t) (nF y u) (by rw[show decide ((Sum.inr x:ge)=Sum.inr y)=decide ((some (Sum.inr x):pJ)=some (Sum.inr y))from decide_eq_decide.mpr ⟨fun z=>by rw[z],fun z=>by injection z⟩];exact h)
   ·rw[zzr0 (by intro z;cases z)]at h;exact br.str_none x t _ _ _ _ h
  ·rcases ci hv with⟨j,u,rfl,rfl⟩|⟨y,u,rfl,rfl⟩|⟨rfl,rfl⟩
   ·rw[zzr0 (by intro z;cases z)]at h;exact br.none_int j u _ _ _ _ h
   ·rw[zzr0 (by intro z;cases z)]at h;exact br.none_str y u _ _ _ _ h
   ·rw[zzr1 rfl]at h;exact br.same _ _ _ _ _ h
 «strs»:=fun k x t v h=>by
  rcases ci h with⟨i,u,rfl,e⟩|⟨y,u,rfl,e⟩|⟨rfl,e⟩
  ·exact nomatch e
  ·injection e with e1 _;subst e1;cases v<;>rfl
  ·exact nomatch e
inductive TK where
 |k (a:pJ)
 |t (l:List TK)
mutual
def Ln:(x y:TK)->Decidable (x=y)
 |.k a,.k b=>if h:a=b then Decidable.isTrue (by rw[h])else Decidable.isFalse fun e=>h (by injection e)
 |.t l,.t m=>match decTKs l m with
  |Decidable.isTrue h=>Decidable.isTrue (by rw[h])
  |Decidable.isFalse h=>Decidable.isFalse fun e=>h (by injection e)
 |.k _,.t _=>Decidable.isFalse nofun
 |.t _,.k _=>Decidable.isFalse nofun
def decTKs:(x y:List TK)->Decidable (x=y)
 |[],[]=>Decidable.isTrue rfl
 |[],_::_=>Decidable.isFalse nofun
 |_::_,[]=>Decidable.isFalse nofun
 |a::l,b::m=>match Ln a b with
  |Decidable.isTrue h=>match decTKs l m with
   |Decidable.isTrue h'=>Decidable.isTrue (by rw[h,h'])
   |Decidable.isFalse h'=>Decidable.isFalse fun e=>h' (by injection e)
  |Decidable.isFalse h=>Decidable.isFalse fun e=>h (by injection e)
end
instance:DecidableEq TK:=Ln
mutual
def TK.depth:TK->Nat
 |.k _=>0
 |.t l=>TK.depths l+1
def TK.depths:List TK->Nat
 |[]=>0
 |a::r=>max (TK.depth a) (TK.depths r)
end
mutual
def TK.hash(w:World):TK->Int
 |.k a=>Lg w a
 |.t l=>Hl (CN (TK.hashs w l))
def TK.hashs(w:World):List TK->List Int
 |[]=>[]
 |a::r=>TK.hash w a::TK.hashs w r
end
mutual
def TK.draws:TK->Nat
 |.k _=>1
 |.t l=>TK.drawss l+1
def TK.drawss:List TK->Nat
 |[]=>0
 |a::r=>TK.draws a+TK.drawss r
end
mutual
def n_(h:Heap):TK->Value->Prop
 |.k a,v=>jt a v=true
 |.t l,v=>∃a o items n,v=.ref a/\h.get? a=some o/\o.cls=.type "tuple"/\o.data=.seq items n/\TAts h l items.toList
def TAts(h:Heap):List TK->List Value->Prop
 |[],vs=>vs=[]
 |k::r,vs=>∃v us,vs=v::us/\n_ h k v/\TAts h r us
end
theorem n_.inj{h:Heap}:∀(d:Nat) {x y:TK}{v:Value},x.depth<=d->n_ h x v->n_ h y v->x=y:=by
 have A:∀(d:Nat) (w:∀{x y:TK}{v:Value},x.depth<=d->n_ h x v->n_ h y v->x=y) (p j:List TK) (q:Zf),TK.depths p<=d->TAts h p q->TAts h j q->p=j:=by
  intro d w p
  induction p with
  |nil =>
   intro j q _ g f;have B:q=[]:=g;subst B;cases j with
   |nil=>rfl
   |cons y j=>obtain⟨_,_,e,_⟩:=f;cases e
  |cons x p C =>
   intro j q r g f;obtain⟨v,N,rfl,D,E⟩:=g;cases j with
   |nil=>have G:v::N=[]:=f;cases G
   |cons y j =>
    obtain⟨v',Q,e,H,I⟩:=f;cases e;have T:max x.depth (TK.depths p)<=d:=r;rw[w (by omega) D H,C j N (by omega) E I]
 have i:∀(a:pJ) (l:List TK) (v:Value),n_ h (.k a) v->n_ h (.t l) v->False:=by
  intro a l v s J;obtain⟨b,o,items,n,rfl,_⟩:=J;rcases ci (show jt a (.ref b)=true from s)with⟨_,_,_,e⟩|⟨_,_,_,e⟩|⟨_,e⟩<;>cases e
 have O:∀(a b:pJ) (v:Value),jt a v=true->jt b v=true->a=b:=fun a b v s J=>vR s J;intro d
 induction d with
 |zero =>
  intro x y v r g f;cases x with
  |t l=>exact absurd r (by show ¬(TK.depths l+1<=0);omega)
  |k a =>
   cases y with
   |k b=>rw[O a b v g f]
   |t l=>exact(i a l v g f).elim
 |succ d w =>
  intro x y v r g f;cases x with
  |k a =>
   cases y with
   |k b=>rw[O a b v g f]
   |t l=>exact(i a l v g f).elim
  |t l =>
   cases y with
   |k b=>exact(i b l v f g).elim
   |t U =>
    obtain⟨a,o,items,n,rfl,Y,hc,L,hi⟩:=g;obtain⟨a',o',z,n',e,u,al,m,M⟩:=f;cases e;rw[Y]at u;cases u;rw[L]at m;injection m with e1 _;subst e1;rw[A d (fun s=>w s) l U items.toList (by have:TK.depths l+1<=d+1:=r;omega) hi M]
theorem n_.mono{h j:Heap}(k:∀a o items n,h.get? a=some o->o.cls=.type "tuple"->o.data=.seq items n->j.get? a=some o):∀(d:Nat) {x:TK}{v:Value},x.depth<=d->n_ h x v->n_ j x v:=by
 have q:∀(d:Nat) (m:∀{x:TK}{v:Value},x.depth<=d->n_ h x v->n_ j x v) (f:List TK) (p:Zf),TK.depths f<=d->TAts h f p->TAts j f p:=by
  intro d m f
  induction f with
  |nil=>intro p _ e;exact e
  |cons x f r =>
   intro p g e;obtain⟨v,w,rfl,s,u⟩:=e;have z:max x.depth (TK.depths f)<=d:=g;exact⟨v,w,rfl,m (by omega) s,r w (by omega) u⟩
 intro d
 induction d with
 |zero =>
  intro x v g e;cases x with
  |t l=>exact absurd g (by show ¬(TK.depths l+1<=0);omega)
  |k a=>exact e
 |succ d m =>
  intro x v g e;cases x with
  |k a=>exact e
  |t l =>
   obtain⟨a,o,items,n,rfl,A,y,i,B⟩:=e;exact⟨a,o,items,n,rfl,k a o items n A y i,y,i,q d (fun C=>m C) l _ (by have:TK.depths l+1<=d+1:=g;omega) B⟩
section
variable{prog:bZ}{w:World}
theorem JL:∀(d:Nat) {A:Around}{E:Zc}{s:Shared}{k:TK}{v:Value}{Q:Int->Shared->Prop},k.depth<=d->A.units+d<cLine->n_ s.heap k v->Q (k.hash w) { s with toks:=s.toks+k.draws } ->
  wpAny (model prog w) A (pyHash v) Q E s:=by
 intro d
 induction d with
 |zero =>
  intro A E s k v Q C hu u h;cases k with
  |t l=>exact absurd C (by show ¬(TK.depths l+1<=0);omega)
  |k a=>exact(BW prog w).pyHash (k:=a) u h
 |succ d ih =>
  intro A E s k v Q C hu u h;cases k with
  |k a=>exact(BW prog w).pyHash (k:=a) u h
  |t l =>
   obtain⟨a,o,items,n,rfl,U,hc,D,hi⟩:=u;have y:s.TypeIs (.ref a) "tuple":=⟨o,U,hc⟩;have G:TK.depths l<=d:=by have:TK.depths l+1<=d+1:=C;omega
   unfold pyHash
   first|unfold pyHashByItsType|skip
   first|refine am (wpAny_cRoomFor_or (.inr (by omega)) ?_)|skip
   refine am (Fv y F.slot_tuple_hash.lookup ?_);show wpAny _ _ (if(some (Value.builtin "tuple.__hash__")==some Value.none)=true then _ else _) Q E s
   rw[if_neg (by rw[beq_builtin_none];exact jc)];refine am (Fv y F.slot_tuple_hash.lookup ?_);show wpAny _ _ (callSpecialIfBoundUnlessNone? (.ref a) "__hash__" _ >>= _) Q E s;refine am (wpAny_callSpecialIfBoundUnlessNone?_slot y F.slot_tuple_hash (yq F.slot_tuple_hash y F.entry_tuple_hash ?_ (F.args_tuple_hash_1 _)));show wpAny _ _ (cc.Tuple.tupleItemsOf (.ref a) >>= _) _ _ s;refine am (wpAny_tupleItemsOf U D ?_);refine am ?_;rw[<-JB];refine wpAny_forIn_list _
    (fun g (b:Array Int) H=>∃done left,l=done++left/\TAts s.heap left g/\b.toList=TK.hashs w done/\H={ s with toks:=s.toks+TK.drawss done })
    _ ?_ ?_ _ _ ⟨[],l,rfl,hi,rfl,rfl⟩
   ·rintro x g b H ⟨done,left,e,z,j,rfl⟩;cases left with
    |nil=>have I:x::g=[]:=z;cases I
    |cons f left =>
     obtain⟨x',J,L,h1,Y⟩:=z;cases L;have M:f.depth<=d:=by
      have gen:∀(p:List TK),TK.depths (p++f::left)<=d->f.depth<=d:=by
       intro p
       induction p with
       |nil=>intro N;have O:max f.depth (TK.depths left)<=d:=N;omega
       |cons q p i=>intro N;have O:max q.depth (TK.depths (p++f::left))<=d:=N;exact i (by omega)
      exact gen done (by rw[<-e];exact G)
     have T:TK.hashs w (done++[f])=TK.hashs w done++[f.hash w]:=by
      clear e j
      induction done with
      |nil=>rfl
      |cons q p i=>show _::TK.hashs w (p++[f])=_;rw[i];rfl
     have m:TK.drawss (done++[f])=TK.drawss done+f.draws:=by
      clear e j T
      induction done with
      |nil=>show f.draws+0=0+f.draws;omega
      |cons q p i=>show q.draws+TK.drawss (p++[f])=q.draws+TK.drawss p+f.draws;rw[i];omega
     refine am (ih (k:=f) M (by show A.units+1+d<cLine;omega) h1 ?_)
     first
      |exact aR ⟨done++[f],left,by rw[e];simp,Y,by rw[T];simp[j],by rw[m];simp[Ep]⟩
      |exact am (aR (aR ⟨done++[f],left,by rw[e];simp,Y,by rw[T];simp[j],by rw[m];simp[Ep]⟩))
   ·rintro b H ⟨done,left,e,z,j,rfl⟩;cases left with
    |cons f left=>obtain⟨_,_,L,_⟩:=z;cases L
    |nil =>
     rw[eZ]at e;subst e;show wpAny _ _ (retInt (CN b.toList)) _ _ _;rw[j];refine wpAny_ret_mkInt ?_;have r:Q (Hl (CN (TK.hashs w l))) { s with toks:=s.toks+(TK.drawss l+1) }:=h;show wpAny _ _ (if(decide (-(2:Int) ^ 63<=CN (TK.hashs w l)) && decide (CN (TK.hashs w l)<2 ^ 63))=true then _ else _) Q E _
     unfold Hl at r;by_cases B:(decide (-(2:Int) ^ 63<=CN (TK.hashs w l)) && decide (CN (TK.hashs w l)<2 ^ 63))=true
     ·rw[if_pos B];rw[if_pos B]at r;exact aR (by simpa[Ep]using r)
     ·rw[if_neg B];rw[if_neg B]at r;exact am (sY (aR (by simpa[Ep]using r)))
theorem FC(d:Nat)(ih:∀{A:Around}{E:Zc}{s:Shared}{x y:TK}{u v:Value}{Q:Bool->Shared->Prop},x.depth<=d->y.depth<=d->A.units+d<cLine->n_ s.heap x u->n_ s.heap y v->Q (decide (x=y)) s->wpAny (model prog w) A (eqBool u v) Q E s)
  {A:Around}{E:Zc}{s:Shared}{x y:List TK}{a b:Addr}{P:Fin->Shared->Prop}{oa L:Obj}{q t:Array Value}{na nb:Nat}(hx:TK.depths x<=d) (hy:TK.depths y<=d) (hu:A.units+d<cLine)
  (N:s.heap.get? a=some oa) (O:oa.data=.seq q na) (T:TAts s.heap x q.toList) (B:s.heap.get? b=some L) (U:L.cls=.type "tuple") (Y:L.data=.seq t nb) (al:TAts s.heap y t.toList)
  (h:P (.done (.ret (.bool (decide (x=y))))) s):wpAny (model prog w) A (cc.«tuple.__eq__» ⟨[.ref a,.ref b],[]⟩) P E s:=by
 have an:s.TypeIs (.ref b) "tuple":=⟨L,B,U⟩;show wpAny _ _ (isInstance (.ref b) (.type "tuple") >>= _) _ _ s;refine am (Be an isSubtype_tuple_tuple ?_);simp only[Eo,l_,if_false];refine am (wpAny_tupleItemsOf N O ?_);refine am (wpAny_tupleItemsOf B Y ?_);refine am ?_;refine wpAny_forIn_list _
  (fun l r M=>r.1=none/\M=s/\∃n m xs' f,l=List.zip xs' f/\TAts s.heap n xs'/\TAts s.heap m f/\TK.depths n<=d/\TK.depths m<=d/\decide (n=m)=decide (x=y)/\(xs'.length==f.length)=(q.size==t.size))
  _ ?_ ?_ _ _ ⟨rfl,rfl,x,y,q.toList,t.toList,rfl,T,al,hx,hy,rfl,by simp⟩
 ·rintro⟨u,v⟩ l r M ⟨hr,rfl,n,m,xs',f,z,j,g,dx,dy,i,k⟩;cases n with
  |nil =>
   have e:xs'=[]:=j;subst e;simp at z
  |cons k1 o =>
   obtain⟨u',C,rfl,h1,D⟩:=j;cases m with
   |nil =>
    have e:f=[]:=g;subst e;simp at z
   |cons k2 p =>
    obtain⟨v',G,rfl,h2,H⟩:=g;simp only[List.zip_cons_cons,List.cons.injEq,Prod.mk.injEq]at z;obtain⟨⟨rfl,rfl⟩,rfl⟩:=z;have ap:max k1.depth (TK.depths o)<=d:=dx;have as:max k2.depth (TK.depths p)<=d:=dy;refine am (ih (x:=k1) (y:=k2) (by omega) (by omega) hu h1 h2 ?_);by_cases hk:k1=k2
    ·subst hk;rw[zzr1 rfl];simp only[Eo,l_,if_false];refine aR ⟨rfl,rfl,o,p,C,G,rfl,D,H,by omega,by omega,?_,by simpa using k⟩;rw[<-i];by_cases I:o=p
     ·simp[I]
     ·simp[I]
    ·rw[zzr0 hk];simp only[Bool.not_false,if_true];have hf:decide (x=y)=false:=by rw[<-i];simp[hk]
     rw[hf]at h;exact am (aR (aR (aR h)))
 ·rintro⟨r1,r2⟩ M ⟨hr,rfl,n,m,xs',f,z,j,g,dx,dy,i,k⟩;simp only at hr;subst hr;refine aR ?_;have J:(q.size==t.size)=decide (x=y):=by
   rw[<-i,<-k];cases n with
   |nil =>
    have e:xs'=[]:=j;subst e;cases m with
    |nil=>have e:f=[]:=g;subst e;simp
    |cons _ _=>obtain⟨_,_,rfl,_⟩:=g;simp
   |cons _ _ =>
    obtain⟨_,_,rfl,_⟩:=j;cases m with
    |nil=>have e:f=[]:=g;subst e;simp
    |cons _ _=>obtain⟨_,_,rfl,_⟩:=g;simp at z
  show P (.done (.ret (.bool (q.size==t.size)))) M;rw[J];exact h
theorem Mp:∀(d:Nat) {A:Around}{E:Zc}{s:Shared}{x y:TK}{u v:Value}{Q:Bool->Shared->Prop},x.depth<=d->y.depth<=d->A.units+d<cLine->n_ s.heap x u->n_ s.heap y v->Q (decide (x=y)) s ->
  wpAny (model prog w) A (eqBool u v) Q E s:=by
 have j:∀{A:Around}{E:Zc}{s:Shared}{a:pJ}{l:List TK}{u v:Value}{Q:Bool->Shared->Prop},A.units<cLine->n_ s.heap (.k a) u->n_ s.heap (.t l) v->Q false s->wpAny (model prog w) A (eqBool u v) Q E s:=by
  intro A E s a l u v Q p f g h;obtain⟨b,o,items,n,rfl,M,N,r,hi⟩:=g;have B:s.heap.IsTuple b items:=⟨o,M,N,n,r⟩;rcases ci (show jt a u=true from f)with⟨i,t,rfl,rfl⟩|⟨i,t,rfl,rfl⟩|⟨rfl,rfl⟩
  ·exact br.int_tuple i t B p prog w E Q h
  ·exact br.str_tuple i t B p prog w E Q h
  ·exact br.none_tuple B p prog w E Q h
 have q:∀{A:Around}{E:Zc}{s:Shared}{a:pJ}{l:List TK}{u v:Value}{Q:Bool->Shared->Prop},A.units<cLine->n_ s.heap (.t l) u->n_ s.heap (.k a) v->Q false s->wpAny (model prog w) A (eqBool u v) Q E s:=by
  intro A E s a l u v Q p f g h;obtain⟨b,o,items,n,rfl,M,N,r,hi⟩:=f;have B:s.heap.IsTuple b items:=⟨o,M,N,n,r⟩;rcases ci (show jt a v=true from g)with⟨i,t,rfl,rfl⟩|⟨i,t,rfl,rfl⟩|⟨rfl,rfl⟩
  ·exact br.tuple_int i t B p prog w E Q h
  ·exact br.tuple_str i t B p prog w E Q h
  ·exact br.tuple_none B p prog w E Q h
 have leaves:∀{A:Around}{E:Zc}{s:Shared}{a b:pJ}{u v:Value}{Q:Bool->Shared->Prop},n_ s.heap (.k a) u->n_ s.heap (.k b) v->Q (decide (TK.k a=TK.k b)) s->wpAny (model prog w) A (eqBool u v) Q E s:=by
  intro A E s a b u v Q f g h;refine(BW prog w).eqBool (a:=a) (b:=b) f g ?_;by_cases e:a=b
  ·subst e;simpa using h
  ·have:¬(TK.k a=TK.k b):=fun z=>e (by injection z);rw[zzr0 this]at h;rw[zzr0 e];exact h
 intro d
 induction d with
 |zero =>
  intro A E s x y u v Q C D p f g h;cases x with
  |t l=>exact absurd C (by show ¬(TK.depths l+1<=0);omega)
  |k a =>
   cases y with
   |t l=>exact absurd D (by show ¬(TK.depths l+1<=0);omega)
   |k b=>exact leaves f g h
 |succ d ih =>
  intro A E s x y u v Q C D p f g h;cases x with
  |k a =>
   cases y with
   |k b=>exact leaves f g h
   |t l =>
    rw[zzr0 (by intro z;cases z)]at h;exact j (by omega) f g h
  |t l =>
   cases y with
   |k b =>
    rw[zzr0 (by intro z;cases z)]at h;exact q (by omega) f g h
   |t m =>
    have hl:TK.depths l<=d:=by have:TK.depths l+1<=d+1:=C;omega
    have hm:TK.depths m<=d:=by have:TK.depths m+1<=d+1:=D;omega
    have O:=f;have T:=g;obtain⟨a,oa,xs,na,rfl,H,U,Y,al⟩:=f;obtain⟨b,ob,ys,nb,rfl,I,J,an,ap⟩:=g;have L:s.TypeIs (.ref a) "tuple":=⟨oa,H,U⟩;have as:s.TypeIs (.ref b) "tuple":=⟨ob,I,J⟩;have aC:decide (TK.t l=TK.t m)=decide (l=m):=by
     by_cases e:l=m
     ·subst e;simp
     ·have:¬(TK.t l=TK.t m):=fun z=>e (by injection z);rw[zzr0 this,zzr0 e]
    unfold eqBool
    try with_reducible refine j6 ?_
    show wpAny _ _ (if(Value.ref a==Value.ref b)=true then _ else _) Q E s
    by_cases G:(Value.ref a==Value.ref b)=true
    ·rw[if_pos G];have e:a=b:=by have:=eq_of_beq G;injection this
     subst e;have e2:TK.t l=TK.t m:=n_.inj _ (aB _) O T;rw[zzr1 e2]at h;exact am (sY (aR h))
    ·rw[if_neg G];rw[aC]at h;exact am (wpAny_richCompare_same_room (op:=.Eq) L as F.slot_tuple_eq
      (yq F.slot_tuple_eq L F.entry_tuple_eq (FC d (fun h1 h2 h3 h4 h5 h6=>ih h1 h2 h3 h4 h5 h6) hl hm (by show A.units+1+d<cLine;omega) H Y al I J an ap ⟨_,rfl,(fun e=>nomatch e),uO h⟩) (F.args_tuple_eq_2 _ _)) (by omega))
theorem Hw:∀(d:Nat) {A:Around}{E:Zc}{s:Shared}{k:TK}{v:Value}{Q:Bool->Shared->Prop},k.depth<=d->n_ s.heap k v->Q true s->wpAny (model prog w) A (eqIsQuiet d v) Q E s:=by
 intro d
 induction d with
 |zero =>
  intro A E s k v Q j i h;cases k with
  |t l=>exact absurd j (by show ¬(TK.depths l+1<=0);omega)
  |k a=>rw[eqIsQuiet_byValue _ ((BW prog w).byValue a v i)];exact aR h
 |succ d D =>
  intro A E s k v Q j i h;cases k with
  |k a=>rw[eqIsQuiet_byValue _ ((BW prog w).byValue a v i)];exact aR h
  |t l =>
   have G:TK.depths l<=d:=by have:TK.depths l+1<=d+1:=j;omega
   obtain⟨a,o,items,n,rfl,y,H,m,I⟩:=i;have z:s.TypeIs (.ref a) "tuple":=⟨o,y,H⟩;unfold eqIsQuiet;refine am (Fv z F.slot_tuple_eq.lookup ?_);show wpAny _ _ (isInstance (.ref a) (.type "tuple") >>= _) _ _ s;refine am (Be z isSubtype_tuple_tuple ?_);simp only[Eo,l_,if_false];refine am (ow y m ?_);refine am ?_;show wpAny _ _ (forIn items _ _) _ _ s;rw[<-JB];refine wpAny_forIn_list _ (fun f r p=>r.1=none/\p=s/\∃left,TAts s.heap left f/\TK.depths left<=d) _ ?_ ?_ _ _ ⟨rfl,rfl,l,I,G⟩
   ·rintro v f r p ⟨q,rfl,left,g,u⟩;cases left with
    |nil=>have e:v::f=[]:=g;cases e
    |cons B left =>
     obtain⟨M,x,e,J,L⟩:=g;cases e;have C:max B.depth (TK.depths left)<=d:=u;refine am (D (k:=B) (by omega) J ?_);simp only[Eo,l_,if_false];exact aR ⟨rfl,rfl,left,L,by omega⟩
   ·rintro⟨N,O⟩ p ⟨q,rfl,_⟩;simp only at q;subst q;exact aR h
def fx(prog:bZ)(w:World):HeapKind prog w TK where
 is:=fun h k a=>n_ h k (.ref a)/\k.depth<=8
 hash:=TK.hash w
 draws:=TK.draws
 room:=fun A=>A.units+8<cLine
 inj:=fun hx hy=>n_.inj 8 hx.2 hx.1 hy.1
 keeps:=fun{h h' k a d o es ep} x ho hd hs=>⟨n_.mono (fun b ob items n hb _ hdb=>(hs.2 b fun e=>by
  subst e;rw[ho]at hb;cases hb;rw[hd]at hdb;cases hdb).trans hb) 8 x.2 x.1,x.2⟩
 pyHash:=fun hu hk h=>JL 8 hk.2 hu hk.1 h
 eqBool:=fun hu hx hy h=>Mp 8 hx.2 hy.2 hu hx.1 hy.1 h
 quiet:=fun hk h=>Hw 8 hk.2 hk.1 h
end
end L2
namespace L2
open PySem PySem.Spec PyProof.Rows
inductive V where
 |non|bl (b:Bool)|int (i:Int)|str (x:Str)|byt (b:Array UInt8)|flt (b:UInt64)|ref (a:Addr)|ty (n:String)
 deriving DecidableEq
def RelV:V->Value->Prop
 |.non,u=>u=Value.none
 |.bl b,u=>u=Value.bool b
 |.int i,u=>∃t,u=Value.int i t
 |.str x,u=>∃t,u=Value.str x t
 |.byt b,u=>∃t,u=Value.bytes b t
 |.flt b,u=>∃t,u=Value.float b t
 |.ref a,u=>u=Value.ref a
 |.ty n,u=>u=Value.type n
abbrev bg:List V->List Value->Prop:=Paired RelV
theorem bg.length{a:List V}{e:Zf}(r:bg a e):a.length=e.length:=Paired.length r
theorem bg.get:∀{a:List V}{f:Zf}{i:Nat}{x:V},bg a f->a[i]?=some x->∃u,f[i]?=some u/\RelV x u
 |_,_,_,_,.nil,e=>by simp at e
 |_,_,0,_,.cons r _,e=>by simp at e;subst e;exact⟨_,rfl,r⟩
 |_,_,i+1,x,.cons _ t,e=>by
  obtain⟨u,g,h⟩:=bg.get (i:=i) (x:=x) t (by simpa using e);exact⟨u,by simpa using g,h⟩
theorem bg.set{x:V}{u:Value}(r:RelV x u):∀{a:List V}{e:Zf}(i:Nat),bg a e->bg (a.set i x) (e.set i u)
 |_,_,_,.nil=>.nil
 |_,_,0,.cons _ t=>.cons r t
 |_,_,i+1,.cons q t=>.cons q (bg.set r i t)
theorem bg.append{a e:List V}{f g:Zf}(h:bg a f)(s:bg e g):bg (a++e) (f++g):=by
 induction h with
 |nil=>exact s
 |cons r _ i=>exact .cons r i
theorem bg.take:∀{a:List V}{e:Zf}(n:Nat),bg a e->bg (a.take n) (e.take n)
 |_,_,0,_=>.nil
 |_,_,_+1,.nil=>.nil
 |_,_,n+1,.cons r t=>.cons r (bg.take n t)
theorem bg.drop:∀{a:List V}{e:Zf}(n:Nat),bg a e->bg (a.drop n) (e.drop n)
 |_,_,0,r=>r
 |_,_,_+1,.nil=>.nil
 |_,_,n+1,.cons _ t=>bg.drop n t
def lP:Option V->Option Value->Prop
 |some v,some u=>RelV v u
 |none,none=>True
 |_,_=>False
def KV{κ:Type}:List (κ×V)->List (κ×Value)->Prop:=Paired fun(p:κ×V) (q:κ×Value)=>p.1=q.1/\RelV p.2 q.2
def kV:ge->V
 |.inl i=>.int i
 |.inr x=>.str x
def Lh:pJ->V
 |none=>.non
 |some k=>kV k
inductive HO where
 |lst (xs:List V)
 |tup (xs:List V)
 |dK (kvs:List (ge×V))|dT (kvs:List (TK×V))
 |set (S:Int->Bool) (n:Nat)
 |ins (C dx:Addr) (fs:List (Str×V))
 |own (x:Addr)
 |xd (fs:List (Str×V))
 |met (f x:Addr)
 |rng (lo hi:Int)
 |frz (o:Obj) (u:HO)
 |tbl (ps:Array Value)
 |ext (φ:Heap->Prop)
abbrev Hp:=Addr->Option HO
mutual
def eR(H:Hp):TK->V->Prop
 |.k a,v=>v=Lh a
 |.t l,v=>∃b xs,v=.ref b/\H b=some (.tup xs)/\TKAts H l xs
def TKAts(H:Hp):List TK->List V->Prop
 |[],vs=>vs=[]
 |k::r,vs=>∃v us,vs=v::us/\eR H k v/\TKAts H r us
end
def aS(K:Za)(H:Hp)(a:Addr)(xs:List V):Prop :=
 H a=some (.tup xs)∨∃(o:Obj) (its:Array Value) (n:Nat),K.lookup a=some o/\o.cls=.type "tuple"/\o.data=.seq its n/\its.size<=aj/\bg xs its.toList
theorem aS.keeps{K:Za}{H e:Hp}{a:Addr}{xs:List V}(h:aS K H a xs)(f:∀b xs,H b=some (.tup xs)->e b=some (.tup xs)):aS K e a xs:=h.imp (f a xs) id
mutual
def tG(K:Za)(H:Hp):TK->V->Prop
 |.k a,v=>v=Lh a
 |.t l,v=>∃b xs,v=.ref b/\aS K H b xs/\TKCs K H l xs
def TKCs(K:Za)(H:Hp):List TK->List V->Prop
 |[],vs=>vs=[]
 |k::r,vs=>∃v us,vs=v::us/\tG K H k v/\TKCs K H r us
end
theorem tG.keeps{K:Za}{H g:Hp}(q:∀b xs,H b=some (.tup xs)->g b=some (.tup xs)):∀(d:Nat) {k:TK}{v:V},k.depth<=d->tG K H k v->tG K g k v:=by
 have j:∀(d:Nat) (h:∀{k:TK}{v:V},k.depth<=d->tG K H k v->tG K g k v) (xs:List TK) (i:List V),TK.depths xs<=d->TKCs K H xs i->TKCs K g xs i:=by
  intro d h xs
  induction xs with
  |nil=>intro i _ e;exact e
  |cons x xs m =>
   intro i f e;obtain⟨v,p,rfl,n,o⟩:=e;have r:max x.depth (TK.depths xs)<=d:=f;exact⟨v,p,rfl,h (by omega) n,m p (by omega) o⟩
 intro d
 induction d with
 |zero =>
  intro k v f e;cases k with
  |t l=>exact absurd f (by show ¬(TK.depths l+1<=0);omega)
  |k a=>exact e
 |succ d h =>
  intro k v f e;cases k with
  |k a=>exact e
  |t l =>
   obtain⟨b,xs,rfl,s,u⟩:=e;exact⟨b,xs,rfl,s.keeps q,j d (fun w=>h w) l xs (by have:TK.depths l+1<=d+1:=f;omega) u⟩
theorem eR.c{K:Za}{H:Hp}:∀(d:Nat) {k:TK}{v:V},k.depth<=d->eR H k v->tG K H k v:=by
 have j:∀(d:Nat) (h:∀{k:TK}{v:V},k.depth<=d->eR H k v->tG K H k v) (e:List TK) (i:List V),TK.depths e<=d->TKAts H e i->TKCs K H e i:=by
  intro d h e
  induction e with
  |nil=>intro i _ f;exact f
  |cons x e m =>
   intro i g f;obtain⟨v,p,rfl,n,o⟩:=f;have q:max x.depth (TK.depths e)<=d:=g;exact⟨v,p,rfl,h (by omega) n,m p (by omega) o⟩
 intro d
 induction d with
 |zero =>
  intro k v g f;cases k with
  |t l=>exact absurd g (by show ¬(TK.depths l+1<=0);omega)
  |k a=>exact f
 |succ d h =>
  intro k v g f;cases k with
  |k a=>exact f
  |t l =>
   obtain⟨b,e,rfl,r,s⟩:=f;exact⟨b,e,rfl,.inl r,j d (fun u=>h u) l e (by have:TK.depths l+1<=d+1:=g;omega) s⟩
def upd(H:Hp)(a:Addr)(o:HO):Hp:=fun b=>if b=a then some o else H b
theorem aa{H:Hp}{a:Addr}{o:HO}:upd H a o a=some o:=by unfold upd;rw[if_pos rfl]
theorem ai{H:Hp}{a b:Addr}{o:HO}(h:b≠a):upd H a o b=H b:=by unfold upd;rw[if_neg h]
theorem uj{H:Hp}{a:Addr}{o u:HO}:upd (upd H a o) a u=upd H a u:=by
 funext b;unfold upd;split<;>rfl
theorem IB{H:Hp}{a b:Addr}{o u:HO}(h:H a=some o)(f:H b=some u)(d:o≠u):a≠b:=by
 intro e;subst e;rw[h]at f;exact d (f6 f)
theorem ae{H:Hp}{a b:Addr}{o:HO}(h:H a=some o)(f:H b=none):a≠b:=by
 intro e;subst e;rw[h]at f;cases f
section
variable(P:bZ)(w:World)(K:Za)
def cZ(H:Hp)(h:Heap)(a:Addr):HO->Prop
 |.lst xs=>xs.length<=aj/\∃(its:Zf) (n:Nat),bg xs its/\h.get? a=some { cls:=.type "list",data:=.seq its.toArray n }
 |.tup xs=>xs.length<=aj/\∃its:List Value,bg xs its/\IsTup h a its.toArray
 |.dK kvs=>kvs.length<=aj/\(a==iU)=false/\∃vs,KV kvs vs/\h.DictOf (cI P w) a vs
 |.dT kvs=>kvs.length<=aj/\(a==iU)=false/\∃xs:List (TK×Addr×Value),
   Paired (fun(p:TK×V) (q:TK×Addr×Value)=>p.1=q.1/\tG K H p.1 (.ref q.2.1)/\p.1.depth<=8/\RelV p.2 q.2.2) kvs xs /\
   ∃o es ep,h.get? a=some o/\o.ExactDict/\o.data=.dict es ep/\es.toList=xs.map (entryOfKey (fx P w))/\(xs.map (·.1)).Nodup
 |.set S n=>h.SetOf (intKind P w) a S n
 |.ins C dx fs=>H dx=some (.own a)/\fs.length<=1000/\dx≠a/\h.get? a=some (sX C dx) /\
   ∃mA,h.Ns1 dx mA/\(∀f,lP (fs.lookup f) (mA f))/\PySem.Within mA (fs.map (·.1))
 |.own _=>∃o,h.get? a=some o
 |.xd fs=>∃mA,h.Ns1 a mA/\∀f,lP (fs.lookup f) (mA f)
 |.rng lo hi=>∃t u v,h.get? a=some { cls:=.type "range",data:=.fields #[.int lo t,.int hi u,.int 1 v] }
 |.frz o u=>h.get? a=some o/\cZ H h a u
 |.tbl ps=>h.get? a=some { cls:=.none,data:=.fields ps }
 |.met f x=>h.get? a=some (PySem.W.methodObj (.ref f) (.ref x))
 |.ext φ=>φ h/\(∃o,h.get? a=some o)/\∀h1 h2:Heap,φ h1->(∀o,h1.get? a=some o->h2.get? a=some o)->φ h2
def nN(H:Hp)(h:Heap):Prop:=∀a o,H a=some o->cZ P w K H h a o
end
section
variable{P:bZ}{w:World}{K:Za}{H H':Hp}{h h':Heap}{a:Addr}{o:HO}
theorem cZ.lt(x:cZ P w K H h a o):a<h.objs.size:=by
 cases o with
 |lst i=>obtain⟨_,_,_,_,e⟩:=x;exact aM e
 |tup i=>obtain⟨_,_,_,p⟩:=x;exact p.lt
 |dK g=>obtain⟨_,_,_,_,o,_,_,e,_⟩:=x;exact aM e
 |dT g=>obtain⟨_,_,_,_,o,_,_,e,_⟩:=x;exact aM e
 |set S n=>obtain⟨o,_,_,_,e,_⟩:=x;exact aM e
 |ins C j fs=>obtain⟨_,_,_,e,_⟩:=x;exact aM e
 |own y=>obtain⟨_,e⟩:=x;exact aM e
 |xd fs=>obtain⟨_,⟨_,_,_,e,_⟩,_⟩:=x;exact aM e
 |rng lo k=>obtain⟨_,_,_,e⟩:=x;exact aM e
 |frz l u=>obtain⟨e,_⟩:=x;exact aM e
 |tbl m=>exact aM (show h.get? a=some _ from x)
 |met f y=>exact aM (show h.get? a=some _ from x)
 |ext φ=>obtain⟨_,⟨_,e⟩,_⟩:=x;exact aM e
theorem Paired.mapP{α β:Type}{F G:α->β->Prop}{e:List α}{g:List β}(h:Paired F e g)(f:∀a b,F a b->G a b):Paired G e g:=by
 induction h with
 |nil=>exact .nil
 |cons r _ i=>exact .cons (f _ _ r) i
theorem cZ.stay(x:cZ P w K H h a o)(k:∀b u,(b=a∨H b=some (.own a))->h.get? b=some u->h'.get? b=some u)
  (E:∀b,H b=some (.own a)->H' b=some (.own a)) (G:∀b m,H b=some (.tup m)->H' b=some (.tup m)):cZ P w K H' h' a o:=by
 induction o with
 |lst m=>obtain⟨z,l,n,r,e⟩:=x;exact⟨z,l,n,r,k _ _ (.inl rfl) e⟩
 |tup m=>obtain⟨z,l,r,g,e,c⟩:=x;exact⟨z,l,r,g,k _ _ (.inl rfl) e,c⟩
 |dK s=>obtain⟨z,y,I,r,g,i,j,e,c⟩:=x;exact⟨z,y,I,r,g,i,j,k _ _ (.inl rfl) e,c⟩
 |dT s =>
  obtain⟨z,y,m,r,g,i,j,e,c⟩:=x;exact⟨z,y,m,Paired.mapP r fun p q z=>⟨z.1,tG.keeps G 8 z.2.2.1 z.2.1,z.2.2⟩,g,i,j,k _ _ (.inl rfl) e,c⟩
 |set S n=>obtain⟨g,i,j,t,e,c⟩:=x;exact⟨g,i,j,t,k _ _ (.inl rfl) e,c⟩
 |ins C M fs =>
  obtain⟨d,z,ne,e,A,⟨B,i,j,J,c⟩,r⟩:=x;exact⟨E _ d,z,ne,k _ _ (.inl rfl) e,A,⟨B,i,j,k _ _ (.inr d) J,c⟩,r⟩
 |own y=>obtain⟨g,e⟩:=x;exact⟨g,k _ _ (.inl rfl) e⟩
 |xd fs=>obtain⟨A,⟨B,i,j,e,c⟩,r⟩:=x;exact⟨A,⟨B,i,j,k _ _ (.inl rfl) e,c⟩,r⟩
 |rng lo N=>obtain⟨t,u,v,e⟩:=x;exact⟨t,u,v,k _ _ (.inl rfl) e⟩
 |frz g u L=>obtain⟨e,q⟩:=x;exact⟨k _ _ (.inl rfl) e,L q⟩
 |tbl D =>
  have e:h.get? a=some { cls:=.none,data:=.fields D }:=x;show h'.get? a=some { cls:=.none,data:=.fields D };exact k a _ (.inl rfl) e
 |met f y =>
  have e:h.get? a=some (PySem.W.methodObj (.ref f) (.ref y)):=x;show h'.get? a=some (PySem.W.methodObj (.ref f) (.ref y));exact k a _ (.inl rfl) e
 |ext φ=>obtain⟨p,⟨o,e⟩,st⟩:=x;exact⟨st _ _ p fun o q=>k _ _ (.inl rfl) q,⟨o,k _ _ (.inl rfl) e⟩,st⟩
theorem nN.lt(x:nN P w K H h)(e:H a=some o):a<h.objs.size:=(x a o e).lt
theorem nN.fresh(x:nN P w K H h)(e:h.objs.size<=a):H a=none:=by
 cases q:H a with
 |none=>rfl
 |some u=>exact absurd (dZ (x.lt q) e) (lG _)
theorem nN.kept(x:nN P w K H h)(k:∀b u,h.get? b=some u->h'.get? b=some u):nN P w K H h':=fun a o e =>
 (x a o e).stay (fun b u _ q=>k b u q) (fun _ q=>q) fun _ _ q=>q
theorem nN.laid(x:nN P w K H h)(k:∀b u,h.get? b=some u->h'.get? b=some u)(i:h.objs.size<=a)(new:cZ P w K (upd H a o) h' a o):nN P w K (upd H a o) h':=fun b u e=>by
 have f:=x.fresh i;by_cases g:b=a
 ·subst g;rw[aa]at e;cases e;exact new
 ·rw[ai g]at e;exact(x b u e).stay (fun c v _ q=>k c v q) (fun c q=>by rw[ai (ae q f)];exact q) fun c j q=>by rw[ai (ae q f)];exact q
end
def Rd(H:Hp)(a:Addr)(u:HO):Prop:=H a=some u∨∃o,H a=some (.frz o u)
theorem Rd.ok{P:bZ}{w:World}{K:Za}{H:Hp}{h:Heap}{a:Addr}{u:HO}(r:Rd H a u)(x:nN P w K H h):cZ P w K H h a u:=by
 rcases r with r|⟨o,r⟩
 ·exact x a u r
 ·obtain⟨_,q⟩:=x a _ r;exact q
def MP:Option HO->Prop
 |some (.lst _)=>True
 |some (.dK _)=>True
 |some (.dT _)=>True
 |some (.set _ _)=>True
 |some (.ins _ _ _)=>True
 |some (.ext _)=>True
 |_=>False
section
variable{P:bZ}{w:World}{K:Za}{H:Hp}{h h':Heap}{x e:Addr}{o':HO}
theorem nN.write(ok:nN P w K H h)(i:MP (H x))(n:e=x∨H e=some (.own x))(k:∀b u,b≠e->h.get? b=some u->h'.get? b=some u)(m:∃u,h'.get? e=some u)
  (new:cZ P w K (upd H x o') h' x o'):nN P w K (upd H x o') h':=fun b u q=>by
 have f:∀c y,H c=some (.own y)->c≠x:=fun c y r z=>by subst z;rw[r]at i;exact i
 have g:∀c j,H c=some (.tup j)->c≠x:=fun c j r z=>by subst z;rw[r]at i;exact i
 by_cases l:b=x
 ·subst l;rw[aa]at q;cases q;exact new
 ·rw[ai l]at q;by_cases a:b=e
  ·have o:H b=some (.own x):=by
    rcases n with z|z
    ·exact absurd (a.trans z) l
    ·rw[a];exact z
   rw[q]at o;cases o;obtain⟨v,p⟩:=m;exact⟨v,by rw[a];exact p⟩
  ·refine(ok b u q).stay (fun c v hc r=>k c v ?_ r) (fun c r=>by rw[ai (f c b r)];exact r) fun c j r=>by rw[ai (g c j r)];exact r
   rcases hc with rfl|hc
   ·exact a
   ·rintro rfl;rcases n with z|z
    ·exact f c b hc z
    ·rw[hc]at z;cases z;exact l rfl
end
structure Un(fs ex:Ze)(H H':Hp)(h h':Heap):Prop where
 keep:∀b o,h.get? b=some o->H b=none->b∉fs->b∉ex->h'.get? b=some o
 slot:∀b o,h.get? b=some o->H b=none->b∈fs->b∉ex->∃sl,h'.get? b=some { o with slots:=sl }
 free:∀b o,h.get? b=some o->H b=none->b∉ex->H' b=none
 there:∀b o,h.get? b=some o->b∉ex->∃o',h'.get? b=some o'
 tups:∀b xs,H b=some (.tup xs)->H' b=some (.tup xs)
 frzs:∀b o u,H b=some (.frz o u)->H' b=some (.frz o u)
 tbls:∀b ps,H b=some (.tbl ps)->∃more,H' b=some (.tbl (ps++more))
section
variable{fs fs' ex ex':Ze}{H H1 H2:Hp}{h h1 h2 h':Heap}{a x e:Addr}{o:HO}
theorem Un.any(u:Un fs ex H H1 h h1){b:Addr}{ob:Obj}(q:h.get? b=some ob)(n:H b=none)(f:b∉ex):∃i,h1.get? b=some { ob with slots:=i }:=by
 by_cases g:b∈fs
 ·exact u.slot b ob q n g f
 ·exact⟨ob.slots,u.keep b ob q n g f⟩
theorem Un.kept(k:∀b u,h.get? b=some u->h'.get? b=some u):Un fs ex H H h h' :=
 ⟨fun b f q _ _ _=>k b f q,fun b f q _ _ _=>⟨f.slots,k b f q⟩,fun _ _ _ n _=>n,fun b f q _=>⟨f,k b f q⟩,fun _ _ q=>q,fun _ _ _ q=>q,fun _ g q=>⟨#[],by rw[q];simp⟩⟩
theorem Un.refl:Un fs ex H H h h:=Un.kept fun _ _ q=>q
theorem Un.laid(k:∀b u,h.get? b=some u->h'.get? b=some u)(g:h.objs.size<=a)(f:H a=none):Un fs ex H (upd H a o) h h' where
 keep:=fun b u q _ _ _=>k b u q
 slot:=fun b u q _ _ _=>⟨u.slots,k b u q⟩
 free:=fun b u q n _=>by rw[ai (cX (dZ (aM q) g))];exact n
 there:=fun b u q _=>⟨u,k b u q⟩
 tups:=fun b i q=>by rw[ai (ae q f)];exact q
 frzs:=fun b u i q=>by rw[ai (ae q f)];exact q
 tbls:=fun b j q=>⟨#[],by rw[ai (ae q f),q];simp⟩
theorem Un.write(g:MP (H x))(p:e=x∨H e=some (.own x))(k:∀b u,b≠e->h.get? b=some u->h'.get? b=some u)(i:∃u,h'.get? e=some u):Un fs ex H (upd H x o) h h':=by
 have l:∀b,H b=none->b≠x:=fun b n z=>by subst z;rw[n]at g;exact g
 have m:∀b,H b=none->b≠e:=fun b n z=>by
  subst z;rcases p with r|r
  ·exact l b n r
  ·rw[n]at r;cases r
 have j:∀b u,H b=some u->¬MP (some u)->b≠x:=fun b u q s z=>by subst z;rw[q]at g;exact s g
 refine⟨fun b u q n _ _=>k b u (m b n) q,fun b u q n _ _=>⟨u.slots,k b u (m b n) q⟩,fun b u q n _=>by rw[ai (l b n)];exact n,fun b u q _=>?_,
  fun b t q=>by rw[ai (j b _ q fun z=>z)];exact q,fun b u t q=>by rw[ai (j b _ q fun z=>z)];exact q,fun b v q=>⟨#[],by rw[ai (j b _ q fun z=>z),q];simp⟩⟩
 by_cases f:b=e
 ·subst f;exact i
 ·exact⟨u,k b u f q⟩
end
def MX(h:Heap)(H:Hp):List Addr:=(pT h.objs.size).filter fun a=>(H a).isSome
def At(h:Heap)(H:Hp):Heap:=PySem.W.hideAll h (MX h H)
theorem GB(h:Heap)(H:Hp):(At h H).objs.size=h.objs.size:=PySem.W.hideAll_size _ _
theorem IS{h:Heap}{H:Hp}{b:Addr}{o:Obj}(e:h.get? b=some o)(n:H b=none):(At h H).get? b=some o :=
 PySem.W.hideAll_get _ e fun a=>by
  have q:(H b).isSome=true:=(fZ.mp a).2;rw[n]at q;simp at q
theorem KB{h:Heap}{H:Hp}{b:Addr}{o:Obj}(e:(At h H).get? b=some o):h.get? b=some o/\H b=none:=by
 have a:h.get? b=some o:=PySem.W.of_hideAll (MX h H) e;refine⟨a,?_⟩;cases q:H b with
 |none=>rfl
 |some x =>
  have f:b∈MX h H:=fZ.mpr ⟨List.mem_range.mpr (aM a),by simp[q]⟩;have z:(At h H).get? b=none:=PySem.W.hideAll_none (MX h H) f;rw[z]at e;cases e
end L2
namespace L2
open PySem PySem.Spec PyProof.Rows
structure Mod(K:Za)(mg:Str->Option Value)(base:Heap):Prop where
 kin:K.In base
 glob:base.Ns ca mg
 blt:∃mb,base.Ns builtinsNs mb/\∀x:Str,x≠"__name__"->mb x=lV x
 nolimit:base.NoLimit
structure Cx where
 prog:bZ
 w:World
 K:Za
 mg:Str->Option Value
 base:Heap
 A:Around
 N:List Str
 s₀:Shared
 H₀:Hp
 env:Env
 outer:List Env
 stack:List Env
 ex:List Addr
 fn:Str->Bool
 calm:Bool
 pn:List (Addr×Obj)
 xe:Value->Shared->Prop
def Hg(l:List Env):List Addr:=l.filterMap (·.frame)
abbrev Cx.fs(X:Cx):List Addr:=Hg X.outer
def MY(sc:Scope)(x:Str):Prop:=sc.names.lookup x=some .local∨sc.names.lookup x=some .cell∨sc.names.lookup x=some .free
def Loc(sc:Scope)(x:Str):Prop:=sc.names.lookup x=some .local∨sc.names.lookup x=some .cell
def Look(env:Env)(h:Heap)(m:Str->Option Value)(x:Str)(u:Value):Prop :=
 (env.kindOf x=some .local/\m x=some u)∨((env.kindOf x=some .cell∨env.kindOf x=some .free)/\∃c,env.cells.lookup x=some c/\h.IsCell c (some u))
structure Cx.Ok(X:Cx):Prop where
 mod:Mod X.K X.mg X.base
 kind:X.env.scope.kind=.function
 glob:X.env.globals=ca
 blt:X.env.builtins=builtinsNs
 above:X.s₀.heap.objs.size<=X.env.locals
 inj:∀x y c,X.env.cells.lookup x=some c->X.env.cells.lookup y=some c->x=y
 has:∀x,(X.env.kindOf x=some .cell∨X.env.kindOf x=some .free)->∃c,X.env.cells.lookup x=some c
 cab:∀x c,X.fn x=true->X.env.cells.lookup x=some c->X.s₀.heap.objs.size<=c
 hd:X.calm=true->X.A.handled=none
 frames:X.A.frames=some X.stack
 stk:X.stack=X.outer∨(X.stack=X.env::X.outer/\X.env.frame=some X.env.locals)
 exf:∀b∈X.ex,b≠X.env.locals/\∀x c,X.env.cells.lookup x=some c->c≠b
 bs:∀b o,X.base.get? b=some o->X.s₀.heap.get? b=some o/\X.H₀ b=none
 bsz:X.base.objs.size<=X.s₀.heap.objs.size
 noex:∀b o,X.base.get? b=some o->b∉X.ex
 exfs:∀b∈X.ex,b∉X.fs
 funs:X.s₀.heap.FunFrames X.base X.outer
 frf:∀b∈X.fs,X.H₀ b=none
structure Inv(X:Cx)(J5:Zd)(σ:List (Option V))(H:Hp)(s:Shared):Prop where
 ok:X.Ok
 os:s.os=X.s₀.os
 bare:pS s.gens
 base:Un X.fs X.ex X.H₀ H X.s₀.heap s.heap
 loc:∃m,s.heap.Ns X.env.locals m/\∀(i:Nat) (x:Str) (v:V),X.N[i]?=some x->σ[i]?=some (some v)->MY X.env.scope x->∃u,RelV v u/\Look X.env s.heap m x u
 cell:∀x c,X.env.cells.lookup x=some c->∃v,s.heap.IsCell c v
 free:H X.env.locals=none
 freeC:∀x c,X.env.cells.lookup x=some c->H c=none
 pin:∀p∈X.pn++J5,s.heap.get? p.1=some p.2/\H p.1=none/\p.1≠X.env.locals/\p.1∉X.fs/\∀v,p.2.data≠.cell v
 hok:nN X.prog X.w X.K H s.heap
 len:σ.length=X.N.length
section
variable{X:Cx}{J5:Zd}{σ:List (Option V)}{H H':Hp}{s:Shared}{h':Heap}
theorem Cx.Ok.nofr(ok:X.Ok){b:Addr}{o:Obj}(e:X.base.get? b=some o):b∉X.fs:=fun a=>by
 have:=(ok.funs.mem a).1;rw[e]at this;cases this
theorem Inv.bs(I:Inv X J5 σ H s):∀b o,X.base.get? b=some o->s.heap.get? b=some o/\H b=none:=fun b o e =>
 ⟨I.base.keep b o (I.ok.bs b o e).1 (I.ok.bs b o e).2 (I.ok.nofr e) (I.ok.noex b o e),I.base.free b o (I.ok.bs b o e).1 (I.ok.bs b o e).2 (I.ok.noex b o e)⟩
theorem Inv.bk(I:Inv X J5 σ H s):∀b o,X.base.get? b=some o->s.heap.get? b=some o:=fun b o e=>(I.bs b o e).1
theorem Inv.mod(I:Inv X J5 σ H s):Mod X.K X.mg X.base:=I.ok.mod
theorem Inv.kIn(I:Inv X J5 σ H s):X.K.In s.heap:=I.ok.mod.kin.keeps I.bk
theorem Inv.lt(I:Inv X J5 σ H s):X.env.locals<s.heap.objs.size:=let⟨_,a,_⟩:=I.loc;a.lt
theorem Inv.sz(I:Inv X J5 σ H s):X.s₀.heap.objs.size<=s.heap.objs.size:=aD I.ok.above (cW I.lt)
theorem Inv.nofs(I:Inv X J5 σ H s){a:Addr}(h:s.heap.objs.size<=a):a∉X.fs:=fun e=>by
 obtain⟨_,o,f,_⟩:=I.ok.funs.mem e;exact absurd (dZ (aM f) (aD I.sz h)) (lG _)
theorem Inv.cne(I:Inv X J5 σ H s):∀x c,X.env.cells.lookup x=some c->c≠X.env.locals:=fun x c e z=>by
 obtain⟨v,o,g,h⟩:=I.cell x c e;obtain⟨m,⟨i,j,k,a,f,_⟩,_⟩:=I.loc;rw[z,a]at g;cases g;rw[f]at h;cases h
theorem Inv.funs(I:Inv X J5 σ H s):s.heap.FunFrames X.base X.outer:=by
 have all:∀(l:List Env),(∀b∈Hg l,b∈X.fs)->X.s₀.heap.FunFrames X.base l->s.heap.FunFrames X.base l:=by
  intro l
  induction l with
  |nil=>intro _ _;trivial
  |cons i r j =>
   intro h k;obtain⟨m,⟨L,o,a,n,p,q⟩,t⟩:=k;have f:L∈X.fs:=h L (by unfold Hg;rw[List.filterMap_cons,a];exact dQ);obtain⟨u,e⟩:=I.base.slot L o p (I.ok.frf L f) f fun z=>I.ok.exfs L z f;exact⟨m,⟨L,_,a,n,e,q⟩,j (fun b g=>h b (by unfold Hg;rw[List.filterMap_cons,a];exact dY _ g)) t⟩
 exact all X.outer (fun _ g=>g) I.ok.funs
theorem Inv.stack(I:Inv X J5 σ H s):s.heap.FunFrames X.base X.stack:=by
 rcases I.ok.stk with e|⟨e,a⟩
 ·rw[e];exact I.funs
 ·rw[e];obtain⟨m,f,_⟩:=I.loc;refine .cons (by rw[I.ok.kind];decide) a f ?_ I.funs;exact Heap.get?_none_of_le (aD I.ok.bsz I.ok.above)
theorem Inv.stkSub(I:Inv X J5 σ H s):∀b∈Hg X.stack,b∈X.env.locals::X.fs:=fun b a=>by
 rcases I.ok.stk with e|⟨e,f⟩
 ·rw[e]at a;exact dY _ a
 ·rw[e]at a;unfold Hg at a;rw[List.filterMap_cons,f]at a;exact a
theorem Inv.stkFree(I:Inv X J5 σ H s):∀b∈Hg X.stack,H b=none:=fun b hb=>by
 rcases cn.mp (I.stkSub b hb)with e|hb
 ·rw[e];exact I.free
 ·obtain⟨_,o,a,_⟩:=I.ok.funs.mem hb;exact I.base.free b o a (I.ok.frf b hb) fun z=>I.ok.exfs b z hb
theorem Inv.step{g':Array GenState}{t':Nat}{d':Drawn}{ch:Ze}(I:Inv X J5 σ H s)
  (f:∀b∈ch,(b∈X.ex∨X.s₀.heap.objs.size<=b)/\b≠X.env.locals/\(∀x c,X.env.cells.lookup x=some c->c≠b)/\∀p∈X.pn++J5,p.1≠b)
  (keep:∀b o,b≠X.env.locals->b∉X.fs->b∉ch->s.heap.get? b=some o->H b=none->h'.get? b=some o)
  (t:∀b o,b≠X.env.locals->b∈X.fs->b∉ch->s.heap.get? b=some o->H b=none->∃N,h'.get? b=some { o with slots:=N }) (free:∀b o,b∉ch->s.heap.get? b=some o->H b=none->H' b=none)
  (there:∀b o,b∉ch->s.heap.get? b=some o->∃C,h'.get? b=some C)
  (D:∀b y,H b=some (.tup y)->H' b=some (.tup y)) (E:∀b o u,H b=some (.frz o u)->H' b=some (.frz o u)) (G:∀b M,H b=some (.tbl M)->∃more,H' b=some (.tbl (M++more)))
  (ns:∀m,s.heap.Ns X.env.locals m->h'.Ns X.env.locals m) (O:nN X.prog X.w X.K H' h') (hg:pS g') :
  Inv X J5 σ H' { s with heap:=h',gens:=g',drawn:=d',toks:=t' }:=by
 have J:∀b o,X.s₀.heap.get? b=some o->b≠X.env.locals:=fun b o e=>cX (dZ (aM e) I.ok.above);have h:∀b o,X.s₀.heap.get? b=some o->b∉X.ex->b∉ch:=fun b o e a A=>by
  rcases(f b A).1 with z|z
  ·exact a z
  ·exact absurd (dZ (aM e) z) (lG _)
 have cellK:∀x c,X.env.cells.lookup x=some c->∀v,s.heap.IsCell c v->h'.IsCell c v:=fun x c e v ⟨o,B,Q⟩=>by
  have g:c∉ch:=fun z=>(f c z).2.2.1 x c e rfl;by_cases U:c∈X.fs
  ·obtain⟨N,q⟩:=t c o (I.cne x c e) U g B (I.freeC x c e);exact⟨_,q,Q⟩
  ·exact⟨o,keep c o (I.cne x c e) U g B (I.freeC x c e),Q⟩
 refine⟨I.ok,I.os,hg,⟨fun b o e n A a=>?_,fun b o e n A a=>?_,fun b o e n a=>?_,fun b o e a=>?_,fun b y e=>D b y (I.base.tups b y e),fun b o y e=>E b o y (I.base.frzs b o y e),fun b M e=>?_⟩,?_,fun x c e=>?_,?_,fun x c e=>?_,fun p Y=>?_,O,I.len⟩
 ·exact keep b o (J b o e) A (h b o e a) (I.base.keep b o e n A a) (I.base.free b o e n a)
 ·obtain⟨N,j⟩:=I.base.slot b o e n A a;obtain⟨T,L⟩:=t b _ (J b o e) A (h b o e a) j (I.base.free b o e n a);exact⟨T,L⟩
 ·obtain⟨C,j⟩:=I.base.there b o e a;exact free b C (h b o e a) j (I.base.free b o e n a)
 ·obtain⟨C,j⟩:=I.base.there b o e a;exact there b C (h b o e a) j
 ·obtain⟨m1,j⟩:=I.base.tbls b M e;obtain⟨m2,L⟩:=G b _ j;exact⟨m1++m2,by rw[L,Array.append_assoc]⟩
 ·obtain⟨m,hn,hl⟩:=I.loc;refine⟨m,ns m hn,fun i x v j L e3=>?_⟩;obtain⟨u,r,l⟩:=hl i x v j L e3;refine⟨u,r,?_⟩;rcases l with l|⟨k,c,e,z⟩
  ·exact .inl l
  ·exact .inr ⟨k,c,e,cellK x c e _ z⟩
 ·obtain⟨v,z⟩:=I.cell x c e;exact⟨v,cellK x c e v z⟩
 ·obtain⟨m,⟨o,_,_,B,_⟩,_⟩:=I.loc;exact free _ o (fun z=>(f _ z).2.1 rfl) B I.free
 ·obtain⟨v,o,B,Q⟩:=I.cell x c e;exact free c o (fun z=>(f c z).2.2.1 x c e rfl) B (I.freeC x c e)
 ·obtain⟨e,n,ne,nf,d⟩:=I.pin p Y;have g:p.1∉ch:=fun z=>(f p.1 z).2.2.2 p Y rfl;exact⟨keep p.1 p.2 ne nf g e n,free p.1 p.2 g e n,ne,nf,d⟩
theorem Inv.un{t':Nat}(I:Inv X J5 σ H s)(u:Un X.fs [] H H' s.heap h')(f:nN X.prog X.w X.K H' h'):Inv X J5 σ H' { s with heap:=h',toks:=t' }:=by
 obtain⟨m,⟨o,q,t,j,r⟩,_⟩:=id I.loc;obtain⟨v,k⟩:=u.any j I.free (by simp);exact I.step (g':=s.gens) (d':=s.drawn) (ch:=[]) (fun _ z=>nomatch z) (fun b o _ g _ e n=>u.keep b o e n g (by simp)) (fun b o _ g _ e n=>u.slot b o e n g (by simp)) (fun b o _ e n=>u.free b o e n (by simp)) (fun b o _ e=>u.there b o e (by simp)) u.tups u.frzs u.tbls (fun x l=>by
  obtain⟨y,h,i,a,p⟩:=l;rw[j]at a;cases a;exact⟨_,h,i,k,p⟩) f I.bare
theorem Inv.call{g':Array GenState}{t':Nat}{d':Drawn}{ch:Ze}(I:Inv X J5 σ H s)(u:Un (Hg X.stack) ch H H' s.heap h')(h:nN X.prog X.w X.K H' h')(q:pS g')
  (f:∀b∈ch,(b∈X.ex∨X.s₀.heap.objs.size<=b)/\b≠X.env.locals/\(∀x c,X.env.cells.lookup x=some c->c≠b)/\∀p∈X.pn++J5,p.1≠b) :
  Inv X J5 σ H' { s with heap:=h',gens:=g',drawn:=d',toks:=t' }:=by
 obtain⟨m,⟨o,A,B,l,r⟩,_⟩:=id I.loc;obtain⟨C,i⟩:=u.any l I.free fun z=>(f _ z).2.1 rfl;exact I.step (ch:=ch) f (fun b o i t a e n=>u.keep b o e n (fun z=>(cn.mp (I.stkSub b z)).elim i t) a) (fun b o _ _ a e n=>u.any e n a) (fun b o a e n=>u.free b o e n a) (fun b o a e=>u.there b o e a) u.tups u.frzs u.tbls (fun D v=>by
  obtain⟨E,j,k,g,y⟩:=v;rw[l]at g;cases g;exact⟨_,j,k,i,y⟩) h q
theorem Inv.turned{t':Nat}{it:Addr}(I:Inv X J5 σ H s)(k:∀b o,b≠it->s.heap.get? b=some o->h'.get? b=some o)(h:H it=none)(g:it≠X.env.locals)
  (i:it∈X.ex∨X.s₀.heap.objs.size<=it) (j:∀x c,X.env.cells.lookup x=some c->c≠it) (l:∀p∈X.pn++J5,p.1≠it):Inv X J5 σ H { s with heap:=h',toks:=t' }:=by
 have f:∀b u,H b=some u->b≠it:=fun b u e z=>by rw[z,h]at e;cases e
 refine I.step (g':=s.gens) (d':=s.drawn) (ch:=[it]) (fun b t=>?_) (fun b o _ _ a e _=>k b o (fun z=>a (by simp[z])) e) (fun b o _ _ a e _=>⟨o.slots,k b o (fun z=>a (by simp[z])) e⟩) (fun _ _ _ _ n=>n)
  (fun b o a e=>⟨o,k b o (fun z=>a (by simp[z])) e⟩) (fun _ _ e=>e) (fun _ _ _ e=>e) (fun b C e=>⟨#[],by rw[e];simp⟩) (fun m w=>?_) (fun b u e=>?_) I.bare
 ·have e:b=it:=by simpa using t
  subst e;exact⟨i,g,j,l⟩
 ·obtain⟨o,y,A,B,r⟩:=w;exact⟨o,y,A,k _ o (b_ g) B,r⟩
 ·refine(I.hok b u e).stay (fun c v a q=>k c v ?_ q) (fun _ q=>q) fun _ _ q=>q;rcases a with z|z
  ·rw[z];exact f b u e
  ·exact f c _ z
theorem Inv.tok(I:Inv X J5 σ H s)(t:Nat):Inv X J5 σ H { s with toks:=t }:=I.un (h':=s.heap) (t':=t) Un.refl I.hok
theorem Inv.kept{t':Nat}(I:Inv X J5 σ H s)(k:∀b u,s.heap.get? b=some u->h'.get? b=some u):Inv X J5 σ H { s with heap:=h',toks:=t' }:=I.un (Un.kept k) (I.hok.kept k)
theorem Inv.laid{a:Addr}{o:HO}{t':Nat}(I:Inv X J5 σ H s)(k:∀b u,s.heap.get? b=some u->h'.get? b=some u)(e:s.heap.objs.size<=a)(new:cZ X.prog X.w X.K (upd H a o) h' a o):
  Inv X J5 σ (upd H a o) { s with heap:=h',toks:=t' }:=I.un (Un.laid k e (I.hok.fresh e)) (I.hok.laid k e new)
theorem Inv.write{x e:Addr}{o:HO}{t':Nat}(I:Inv X J5 σ H s)(f:MP (H x))(g:e=x∨H e=some (.own x))(k:∀b u,b≠e->s.heap.get? b=some u->h'.get? b=some u)(a:∃u,h'.get? e=some u)
  (new:cZ X.prog X.w X.K (upd H x o) h' x o):Inv X J5 σ (upd H x o) { s with heap:=h',toks:=t' }:=I.un (Un.write f g k a) (I.hok.write f g k a new)
theorem Inv.weak{σ':List (Option V)}(I:Inv X J5 σ H s)(e:σ'.length=σ.length)(w:∀(i:Nat) v,σ'[i]?=some (some v)->σ[i]?=some (some v)):Inv X J5 σ' H s :=
 ⟨I.ok,I.os,I.bare,I.base,let⟨m,f,a⟩:=I.loc;⟨m,f,fun i x v g h j=>a i x v g (w i v h) j⟩,I.cell,I.free,I.freeC,I.pin,I.hok,e.trans I.len⟩
theorem Inv.pins_of{a:Zd}(I:Inv X J5 σ H s)(h:∀p∈a,s.heap.get? p.1=some p.2/\H p.1=none/\p.1≠X.env.locals/\p.1∉X.fs/\∀v,p.2.data≠.cell v):Inv X a σ H s :=
 ⟨I.ok,I.os,I.bare,I.base,I.loc,I.cell,I.free,I.freeC,fun p e=>(bL.mp e).elim (fun z=>I.pin p (dz _ z)) (h p),I.hok,I.len⟩
theorem BU{N:Zb}(e:N.Nodup){i j:Nat}{x:Str}(a:N[i]?=some x)(b:N[j]?=some x):i=j:=by
 obtain⟨h,f⟩:=cj.mp a;obtain⟨k,g⟩:=cj.mp b;exact(List.getElem_inj e).mp (f.trans g.symm)
theorem xz{M:Model}{A:Around}{E:Zc}{i:Nat}{x:Str}{v:V}{u:Value}{Q:Unit->Shared->Prop}(I:Inv X J5 σ H s)(hN:X.N.Nodup)(C:X.N[i]?=some x)(l:Loc X.env.scope x)(r:RelV v u)
  (h:∀s',Inv X J5 (σ.set i (some v)) H s'->(∃a,iT a s.heap s'.heap/\(a=X.env.locals∨X.env.cells.lookup x=some a))->Q () s') (hf:X.fn x=true∨X.env.scope.names.lookup x=some .local:=by first|exact .inl rfl|exact .inr rfl|assumption):wpAny M A (storeName X.env x u) Q E s:=by
 obtain⟨m,hn,hl⟩:=id I.loc;have L:(X.env.scope.kind==.class || (X.env.scope.kind==.module && X.env.locals != X.env.globals))=false:=by rw[I.ok.kind];rfl
 have Cσ:i<σ.length:=by rw[I.len];exact(cj.mp C).1
 have cne:=I.cne;have tracked:∀{a:Addr}{h':Heap},(∃o,s.heap.get? a=some o/\H a=none)->iT a s.heap h'->nN X.prog X.w X.K H h':=fun{a h'} ha f b ob e=>by
  obtain⟨_,_,t⟩:=ha;refine(I.hok b ob e).stay (fun c w' hc q=>(f.2 c ?_).trans q) (fun _ q=>q) fun _ _ q=>q;rintro rfl;rcases hc with rfl|hc
  ·rw[t]at e;cases e
  ·rw[t]at hc;cases hc
 rcases l with hk|hk
 ·refine wpAny_storeName_local hk hn (fun h' al f=>?_) L;obtain⟨oL,_,_,an,_⟩:=id hn;refine h _ ⟨I.ok,I.os,I.bare,⟨fun b o e n D l=>?_,fun b o e n D l=>?_,I.base.free,fun b o e l=>?_,I.base.tups,I.base.frzs,I.base.tbls⟩,⟨_,al,fun j y v' g B e3=>?_⟩,fun y c e=>?_,I.free,I.freeC,fun p hp=>?_,tracked ⟨oL,an,I.free⟩ f,by simpa using I.len⟩ ⟨_,f,.inl rfl⟩
  ·exact(f.2 b (cX (dZ (aM e) I.ok.above))).trans (I.base.keep b o e n D l)
  ·obtain⟨sl,g⟩:=I.base.slot b o e n D l;exact⟨sl,(f.2 b (cX (dZ (aM e) I.ok.above))).trans g⟩
  ·obtain⟨o',g⟩:=I.base.there b o e l;exact⟨o',(f.2 b (cX (dZ (aM e) I.ok.above))).trans g⟩
  ·by_cases G:j=i
   ·subst G;rw[C]at g;cases g;rw[List.getElem?_set_self Cσ]at B;cases B;exact⟨u,r,.inl ⟨hk,by simp⟩⟩
   ·rw[Em (b_ G)]at B;obtain⟨u',r',q⟩:=hl j y v' g B e3;refine⟨u',r',?_⟩;rcases q with⟨k,e⟩|⟨k,c,e,z⟩
    ·refine .inl ⟨k,?_⟩;have:y≠x:=fun e=>G (BU hN g (e▸C));simp[this,e]
    ·exact .inr ⟨k,c,e,z.sameBut f (cne y c e)⟩
  ·obtain⟨w',z⟩:=I.cell y c e;exact⟨w',z.sameBut f (cne y c e)⟩
  ·obtain⟨e,n,ne,nf,d⟩:=I.pin p hp;exact⟨(f.2 p.1 ne).trans e,n,ne,nf,d⟩
 ·have J:X.fn x=true:=by
   rcases hf with z|z
   ·exact z
   ·rw[z]at hk;cases hk
  obtain⟨c,hc⟩:=I.ok.has x (.inl hk);obtain⟨w',z⟩:=I.cell x c hc;refine wpAny_storeName_cell I.ok.kind hk hc z (fun h' O f=>?_);obtain⟨oc,T,U⟩:=id z;refine h { s with heap:=h' } ⟨I.ok,I.os,I.bare,⟨fun b o e n D l=>?_,fun b o e n D l=>?_,I.base.free,fun b o e l=>?_,I.base.tups,I.base.frzs,I.base.tbls⟩,⟨m,hn.sameBut f (b_ (cne x c hc)),fun j y v' g B e3=>?_⟩,fun y c' e=>?_,I.free,I.freeC,fun p hp=>?_,tracked ⟨oc,T,I.freeC x c hc⟩ f,by simpa using I.len⟩ ⟨c,f,.inr hc⟩
  ·exact(f.2 b (cX (dZ (aM e) (I.ok.cab x c J hc)))).trans (I.base.keep b o e n D l)
  ·obtain⟨sl,g⟩:=I.base.slot b o e n D l;exact⟨sl,(f.2 b (cX (dZ (aM e) (I.ok.cab x c J hc)))).trans g⟩
  ·obtain⟨o',g⟩:=I.base.there b o e l;exact⟨o',(f.2 b (cX (dZ (aM e) (I.ok.cab x c J hc)))).trans g⟩
  ·by_cases G:j=i
   ·subst G;rw[C]at g;cases g;rw[List.getElem?_set_self Cσ]at B;cases B;exact⟨u,r,.inr ⟨.inl hk,c,hc,O⟩⟩
   ·rw[Em (b_ G)]at B;obtain⟨u',r',q⟩:=hl j y v' g B e3;refine⟨u',r',?_⟩;rcases q with q|⟨k,c',e,z'⟩
    ·exact .inl q
    ·refine .inr ⟨k,c',e,z'.sameBut f ?_⟩;rintro rfl;exact G (BU hN g (I.ok.inj _ _ _ e hc▸C))
  ·by_cases Y:c'=c
   ·subst Y;exact⟨_,O⟩
   ·obtain⟨w2,z2⟩:=I.cell y c' e;exact⟨w2,z2.sameBut f Y⟩
  ·obtain⟨e,n,ne,nf,d⟩:=I.pin p hp;refine⟨(f.2 p.1 ?_).trans e,n,ne,nf,d⟩;intro q;rw[q,T]at e;have q':oc=p.2:=f6 e;exact d w' (by rw[<-q'];exact U)
theorem vp{M:Model}{A:Around}{E:Zc}{i:Nat}{x:Str}{v:V}{u:Value}{Q:Unit->Shared->Prop}(I:Inv X J5 σ H s)(e:X.N.Nodup)(f:X.N[i]?=some x)(g:Loc X.env.scope x)(r:RelV v u)
  (h:∀a,Inv X J5 (σ.set i (some v)) H a->Q () a) (j:X.fn x=true∨X.env.scope.names.lookup x=some .local:=by first|exact .inl rfl|exact .inr rfl|assumption):wpAny M A (storeName X.env x u) Q E s :=
 xz I e f g r (fun a k _=>h a k) j
theorem Inv.call'{a:Shared}{h:Ze}(I:Inv X J5 σ H s)(i:a.os=s.os)(u:Un (Hg X.stack) h H H' s.heap a.heap)(f:nN X.prog X.w X.K H' a.heap)(j:pS a.gens)
  (g:∀b∈h,(b∈X.ex∨X.s₀.heap.objs.size<=b)/\b≠X.env.locals/\(∀x c,X.env.cells.lookup x=some c->c≠b)/\∀p∈X.pn++J5,p.1≠b):Inv X J5 σ H' a:=by
 obtain⟨h',k,l,m,n⟩:=a;have e:n=s.os:=i;subst e;exact I.call (g':=k) (t':=m) (d':=l) u f j g
end
abbrev XK:=Value->Option Addr->Hp->Prop
abbrev St:=List (Option V)
abbrev VK:=V->Hp->Prop
abbrev TE:=St->Hp->VK->Prop
abbrev TT:=St->Hp->(Bool->Hp->Prop)->Prop
abbrev TA:=St->Hp->(List V->Hp->Prop)->Prop
structure on where
 nx:St->Hp->Prop
 rt:VK
 bk:St->Hp->Prop:=fun _ _=>False
 ct:St->Hp->Prop:=fun _ _=>False
abbrev bq(Q:VK):on:={ nx:=fun _ H=>Q .non H,rt:=Q }
abbrev TS:=on->St->Hp->Prop
def EP(X:Cx)(J5:Zd)(σ:St)(Q:VK)(u:Value)(s':Shared):Prop:=∃v H',Inv X J5 σ H' s'/\RelV v u/\Q v H'
def TP(X:Cx)(J5:Zd)(σ:St)(Q:Bool->Hp->Prop)(b:Bool)(s':Shared):Prop:=∃H',Inv X J5 σ H' s'/\Q b H'
def AP(X:Cx)(J5:Zd)(σ:St)(Q:List V->Hp->Prop)(us:Zf)(s':Shared):Prop:=∃vs H',Inv X J5 σ H' s'/\bg vs us/\Q vs H'
def SP(X:Cx)(J5:Zd)(D:on)(f:Flow)(s':Shared):Prop :=
 match f with
 |.next=>∃σ' H',Inv X J5 σ' H' s'/\D.nx σ' H'
 |.brk=>∃σ' H',Inv X J5 σ' H' s'/\D.bk σ' H'
 |.cont=>∃σ' H',Inv X J5 σ' H' s'/\D.ct σ' H'
 |.ret u=>∃v σ' H',Inv X J5 σ' H' s'/\RelV v u/\D.rt v H'
def PE(X:Cx)(e:Expr)(t:TE):Prop :=
 ∀(J5:Zd) (s:Shared) (σ:St) (H:Hp) (Q:VK),Inv X J5 σ H s->t σ H Q->wpAny (model X.prog X.w) X.A (eval e X.env) (EP X J5 σ Q) X.xe s
def PT(X:Cx)(e:Expr)(t:TT):Prop :=
 ∀(J5:Zd) (s:Shared) (σ:St) (H:Hp) (Q:Bool->Hp->Prop),Inv X J5 σ H s->t σ H Q->wpAny (model X.prog X.w) X.A (isTrue e X.env (eval e X.env)) (TP X J5 σ Q) X.xe s
def PW(X:Cx)(e:Expr)(t:TT):Prop :=
 ∀(whole:Sem Value) (J5:Zd) (s:Shared) (σ:St) (H:Hp) (Q:Bool->Hp->Prop),Inv X J5 σ H s->t σ H Q->wpAny (model X.prog X.w) X.A (isTrue e X.env whole) (TP X J5 σ Q) X.xe s
theorem PW.pt{X:Cx}{e:Expr}{t:TT}(h:PW X e t):PT X e t:=h _
def PA(X:Cx)(es:List Expr)(t:TA):Prop :=
 ∀(pos:Pos) (J5:Zd) (s:Shared) (σ:St) (H:Hp) (Q:List V->Hp->Prop),Inv X J5 σ H s->t σ H Q->wpAny (model X.prog X.w) X.A (spliced (backTo pos (aK es X.env))) (AP X J5 σ Q) X.xe s
def PS(X:Cx)(st:Stmt)(t:TS):Prop :=
 ∀(J5:Zd) (s:Shared) (σ:St) (H:Hp) (D:on),Inv X J5 σ H s->t D σ H->wpAny (model X.prog X.w) X.A (exec st X.env) (SP X J5 D) X.xe s
def CM(X:Cx)(st:List Stmt)(t:TS):Prop :=
 ∀(J5:Zd) (s:Shared) (σ:St) (H:Hp) (D:on),Inv X J5 σ H s->t D σ H->wpAny (model X.prog X.w) X.A (execs st X.env) (SP X J5 D) X.xe s
theorem cS{α:Type}{t:Sem α}{Q e:α->Shared->Prop}{M:Model}{A:Around}{E:Zc}{s:Shared}(h:wpAny M A t Q E s)(f:∀a s,Q a s->e a s):wpAny M A t e E s:=pU h f fun _ _ x=>x
end L2
namespace L2
open PySem PySem.Spec PyProof.Rows
section
variable{X:Cx}
def mq(i:Nat):TE:=fun σ H Q=>∃v,σ[i]?=some (some v)/\Q v H
abbrev V0:TE:=mq 0
abbrev V1:TE:=mq 1
abbrev V2:TE:=mq 2
abbrev V3:TE:=mq 3
abbrev V4:TE:=mq 4
abbrev V5:TE:=mq 5
abbrev V6:TE:=mq 6
abbrev V7:TE:=mq 7
abbrev V8:TE:=mq 8
abbrev V9:TE:=mq 9
abbrev Jn:TE:=mq 10
abbrev M3:TE:=mq 11
abbrev MZ:TE:=mq 12
abbrev V13:TE:=mq 13
abbrev V14:TE:=mq 14
def tC(v:V):TE:=fun _ H Q=>Q v H
theorem LO{i:Nat}{x:Str}{g:Pos}(o:X.N[i]?=some x)(p:MY X.env.scope x)(j:(x==("__debug__":Str))=false:=by decide)(k:(x==("__classdict__":Str))=false:=by decide):PE X (.Name x g) (mq i):=by
 intro J5 s σ H Q I h;obtain⟨v,e,h⟩:=h;obtain⟨m,q,t⟩:=I.loc;obtain⟨u,r,l⟩:=t i x v o e p;have f:EP X J5 σ Q u s:=⟨v,H,I,r,h⟩;rcases l with⟨hk,w⟩|⟨hk,c,n,a⟩
 ·exact wpAny_Name (wpAny_loadName_local I.ok.kind hk q w f) j
 ·rcases hk with hk|hk
  ·exact wpAny_Name (wpAny_loadName_cell I.ok.kind hk n a f) j
  ·exact wpAny_Name (wpAny_loadName_free I.ok.kind hk n a f k) j
theorem af{i j a}:PE X (.Constant (.int i) j a) (tC (.int i)):=fun _ _ _ H _ I h=>wpAny_Constant_int ⟨.int i,H,I.tok _,⟨_,rfl⟩,h⟩
theorem qI{b j a}:PE X (.Constant (.bool b) j a) (tC (.bl b)):=fun _ _ _ H _ I h=>Constant_bool ⟨.bl b,H,I,rfl,h⟩
theorem gm{j a}:PE X (.Constant .none j a) (tC .non):=fun _ _ _ H _ I h=>Constant_none ⟨.non,H,I,rfl,h⟩
theorem aW{x j a}:PE X (.Constant (.str x) j a) (tC (.str x)):=fun _ _ _ H _ I h=>Calls.Constant_str ⟨.str x,H,I.tok _,⟨_,rfl⟩,h⟩
def Gl(X:Cx)(x:Str):Prop:=X.env.kindOf x=some .globalImplicit
theorem Aj{E:Zc}{e:Zd}{s:Shared}{σ:St}{H:Hp}{x:Str}{u:Value}{a:Pos}{Q:Zc}(I:Inv X e σ H s)(f:Gl X x)(g:X.mg x=some u)(h:Q u s)
  (i:(x==("__debug__":Str))=false:=by decide):wpAny (model X.prog X.w) X.A (eval (.Name x a) X.env) Q E s :=
 Calls.Name_function_global I.ok.kind f (Calls.loadGlobal_global (by rw[I.ok.glob];exact I.mod.glob.keeps I.bk) g h) i
theorem k9{E:Zc}{e:Zd}{s:Shared}{σ:St}{H:Hp}{x:Str}{u:Value}{a:Pos}{Q:Zc}(I:Inv X e σ H s)(f:Gl X x)(g:X.mg x=none)(i:lV x=some u)(h:Q u s)
  (j:x≠"__name__":=by decide) (k:(x==("__debug__":Str))=false:=by decide):wpAny (model X.prog X.w) X.A (eval (.Name x a) X.env) Q E s:=by
 obtain⟨n,l,m⟩:=I.mod.blt;exact Calls.Name_function_global I.ok.kind f (Calls.loadGlobal_builtin (by rw[I.ok.glob];exact I.mod.glob.keeps I.bk) g (by rw[I.ok.blt];exact l.keeps I.bk) ((m x j).trans i) h) k
theorem Ku{x:Str}{v:V}{u:Value}{a:Pos}(e:Gl X x)(f:X.mg x=some u)(r:RelV v u)(g:(x==("__debug__":Str))=false:=by decide):PE X (.Name x a) (tC v) :=
 fun _ _ _ H _ I h=>Aj I e f ⟨v,H,I,r,h⟩ g
variable{a b:Expr}{ta tb:TE}{pos:Pos}
def PC(X:Cx)(op:CmpOp)(a b:Expr)(t:TE):Prop :=
 ∀(J5:Zd) (s:Shared) (σ:St) (H:Hp) (Q:VK),Inv X J5 σ H s->t σ H Q ->
  wpAny (model X.prog X.w) X.A (eval a X.env) (fun v s₁=>wpAny (model X.prog X.w) X.A (eval b X.env) (fun u s₂=>wpAny (model X.prog X.w) X.A (fO op v u) (EP X J5 σ Q) X.xe s₂) X.xe s₁) X.xe s
theorem BV(b:Expr){e:CmpOp}(h:e≠.In)(f:e≠.NotIn):lF e b=false:=by
 have g:(e==CmpOp.In)=false:=by cases e<;>first|rfl|exact absurd rfl h
 have i:(e==CmpOp.NotIn)=false:=by cases e<;>first|rfl|exact absurd rfl f
 cases b<;>simp[lF,g,i]
def vk(ta:TE):TE:=fun σ H Q=>ta σ H fun x H1=>Q (.bl (decide (x=.non))) H1
def K7(ta:TE):TE:=fun σ H Q=>ta σ H fun x H1=>Q (.bl (!decide (x=.non))) H1
theorem RelV.none_iff{x:V}{v:Value}(r:RelV x v):(v==Value.none)=decide (x=.non):=by
 cases x with
 |non=>cases r;rfl
 |bl _=>cases r;rfl
 |int _=>obtain⟨t,rfl⟩:=r;rfl
 |str _=>obtain⟨t,rfl⟩:=r;rfl
 |byt _=>obtain⟨t,rfl⟩:=r;rfl
 |flt _=>obtain⟨t,rfl⟩:=r;rfl
 |ref _=>cases r;rfl
 |ty _=>cases r;rfl
theorem mH{j e}(g:PE X a ta):PC X .Is a (.Constant .none j e) (vk ta):=by
 intro i s σ H Q I h;refine cS (g i s σ H _ I h) fun v o f=>?_;obtain⟨x,k,l,m,n⟩:=f;exact Constant_none (is_none_gen ⟨.bl _,k,l,by rw[m.none_iff];rfl,n⟩)
theorem Kx{j e}(g:PE X a ta):PC X .IsNot a (.Constant .none j e) (K7 ta):=by
 intro i s σ H Q I h;refine cS (g i s σ H _ I h) fun v o f=>?_;obtain⟨x,k,l,m,n⟩:=f;exact Constant_none (isnot_none_gen ⟨.bl _,k,l,by rw[m.none_iff];rfl,n⟩)
def tB(t:TE):TT:=fun σ H Q=>t σ H fun x H1=>∃c,x=.bl c/\Q c H1
theorem LQ{e:CmpOp}{t:TE}(h:PC X e a b t)(f:lF e b=false:=by first|exact BV _ (by decide) (by decide)|rfl):PE X (.Compare a [e] [b] pos) t:=fun g s σ H Q I i=>wpAny_Compare1 (h g s σ H Q I i) f
theorem dL{e:CmpOp}{t:TE}(h:PC X e a b t)(f:lF e b=false:=by first|exact BV _ (by decide) (by decide)|rfl):PT X (.Compare a [e] [b] pos) (tB t):=by
 intro i s σ H Q I j;refine wpAny_isTrue_Compare1 (cS (h i s σ H _ I j) fun v p f=>cS f fun u r k=>cS k fun c w g=>?_) f;obtain⟨x,l,m,n,o⟩:=g;obtain⟨d,rfl,q⟩:=o;cases n;exact uO ⟨l,m,q⟩
theorem mE{e:Expr}{t:TE}(h:PE X e t)(g:∀whole,isTrue e X.env whole=(do let v <- whole;sW e.pos;lU [v] (truthy v)):=by intro _;rfl):PT X e (tB t):=by
 intro i s σ H Q I j;refine isTrue_plain (cS (h i s σ H _ I j) fun v o f=>?_) (g _);obtain⟨x,k,l,m,n⟩:=f;obtain⟨d,rfl,q⟩:=n;cases m;exact uO ⟨k,l,q⟩
variable{tA tB':TT}{rest:List Expr}
def Hz(t u:TT):TT:=fun σ H Q=>t σ H fun c H1=>if c=true then u σ H1 Q else Q false H1
def C2(t u:TT):TT:=fun σ H Q=>t σ H fun c H1=>if c=true then Q true H1 else u σ H1 Q
def LA(t:TT):TT:=fun σ H Q=>t σ H fun c H1=>Q (!c) H1
theorem z_(f:PT X a tA):PW X (.BoolOp .And [a] pos) tA:=by
 intro i g s σ H Q I h;refine isTrue_and (cS (f g s σ H Q I h) fun c j e=>?_);cases c with
 |true=>exact isTrue_and_nil e
 |false=>exact e
theorem jT(f:PT X a tA):PW X (.BoolOp .Or [a] pos) tA:=by
 intro i g s σ H Q I h;refine isTrue_or (cS (f g s σ H Q I h) fun c j e=>?_);cases c with
 |false=>exact isTrue_or_nil e
 |true=>exact e
theorem Aa(k:PT X a tA)(l:PW X (.BoolOp .And (b::rest) pos) tB'):PW X (.BoolOp .And (a::b::rest) pos) (Hz tA tB'):=by
 intro m f s σ H Q I h;refine isTrue_and (cS (k f s σ H _ I h) fun c n e=>?_);obtain⟨g,i,j⟩:=e;cases c with
 |true=>exact l m f n σ g Q i j
 |false=>exact⟨g,i,j⟩
theorem jJ(k:PT X a tA)(l:PW X (.BoolOp .Or (b::rest) pos) tB'):PW X (.BoolOp .Or (a::b::rest) pos) (C2 tA tB'):=by
 intro m f s σ H Q I h;refine isTrue_or (cS (k f s σ H _ I h) fun c n e=>?_);obtain⟨g,i,j⟩:=e;cases c with
 |true=>exact⟨g,i,j⟩
 |false=>exact l m f n σ g Q i j
theorem H_(e:PT X a tA):PT X (.UnaryOp .Not a pos) (LA tA):=by
 intro f s σ H Q I h;exact isTrue_not (e f s σ H (fun c g=>Q (!c) g) I h)
def xy(ta tb:TE):TE:=fun σ H Q=>ta σ H fun x H1=>∃c,x=.bl c/\if c=true then tb σ H1 Q else Q (.bl false) H1
def Mq(ta tb:TE):TE:=fun σ H Q=>ta σ H fun x H1=>∃c,x=.bl c/\if c=true then Q (.bl true) H1 else tb σ H1 Q
theorem vD{e}{t:TE}(h:PE X a t):PE X (.BoolOp e [a] pos) t:=fun f s σ H Q I g=>BoolOp_one (h f s σ H Q I g)
theorem vF(k:PE X a ta)(l:PE X (.BoolOp .And (b::rest) pos) tb):PE X (.BoolOp .And (a::b::rest) pos) (xy ta tb):=by
 intro g s σ H Q I h;refine BoolOp_and (cS (k g s σ H _ I h) fun v m f=>?_);obtain⟨x,i,j,n,e⟩:=f;obtain⟨c,rfl,e⟩:=e;cases n;refine uO ?_;cases c with
 |true=>exact l g m σ i Q j e
 |false=>exact⟨.bl false,i,j,rfl,e⟩
theorem Mw(k:PE X a ta)(l:PE X (.BoolOp .Or (b::rest) pos) tb):PE X (.BoolOp .Or (a::b::rest) pos) (Mq ta tb):=by
 intro g s σ H Q I h;refine BoolOp_or (cS (k g s σ H _ I h) fun v m f=>?_);obtain⟨x,i,j,n,e⟩:=f;obtain⟨c,rfl,e⟩:=e;cases n;refine uO ?_;cases c with
 |false=>exact l g m σ i Q j e
 |true=>exact⟨.bl true,i,j,rfl,e⟩
def tIf(t:TT)(ta tb:TE):TE:=fun σ H Q=>t σ H fun c H1=>if c=true then ta σ H1 Q else tb σ H1 Q
theorem BQ{c:Expr}(l:PT X c tA)(m:PE X a ta)(n:PE X b tb):PE X (.IfExp c a b pos) (tIf tA ta tb):=by
 intro e s σ H Q I h;refine wpAny_IfExp (cS (l e s σ H _ I h) fun d g f=>?_);obtain⟨i,j,k⟩:=f;cases d with
 |true=>exact m e g σ i Q j k
 |false=>exact n e g σ i Q j k
end
end L2
namespace L2
open PySem PySem.Spec PyProof.Rows
def ay(K:Za)(H:Hp)(a:Addr)(xs:List V):Prop :=
 Rd H a (.lst xs) ∨
  ∃(o:Obj) (its:Array Value) (n:Nat),K.lookup a=some o/\o.cls=.type "list"/\o.dict=none/\o.data=.seq its n/\its.size<=aj/\bg xs its.toList
def bT(K:Za)(H:Hp)(a:Addr)(xs:List V):Prop :=
 Rd H a (.tup xs) ∨
  ∃(o:Obj) (its:Array Value) (n:Nat),K.lookup a=some o/\o.cls=.type "tuple"/\o.data=.seq its n/\its.size<=aj/\bg xs its.toList
def absV:Value->Option V
 |.none=>some .non
 |.bool b=>some (.bl b)
 |.int i _=>some (.int i)
 |.str x _=>some (.str x)
 |.bytes b _=>some (.byt b)
 |.float b _=>some (.flt b)
 |.ref a=>some (.ref a)
 |.type n=>some (.ty n)
 |_=>none
theorem RelV.abs{x:V}{u:Value}(r:RelV x u):absV u=some x:=by
 cases x with
 |non=>cases r;rfl
 |bl _=>cases r;rfl
 |int _=>obtain⟨t,rfl⟩:=r;rfl
 |str _=>obtain⟨t,rfl⟩:=r;rfl
 |byt _=>obtain⟨t,rfl⟩:=r;rfl
 |flt _=>obtain⟨t,rfl⟩:=r;rfl
 |ref _=>cases r;rfl
 |ty _=>cases r;rfl
theorem RelV.inj{x y:V}{u:Value}(r:RelV x u)(q:RelV y u):x=y:=f6 (r.abs.symm.trans q.abs)
theorem bg.inj{e a:List V}{f:Zf}(h:bg e f)(g:bg a f):e=a:=by
 induction h generalizing a with
 |nil=>cases g;rfl
 |cons r _ i =>
  cases g with
  |cons j k=>rw[r.inj j,i k]
section
variable{X:Cx}{J5:Zd}{σ:St}{H:Hp}{s:Shared}{a:Addr}{xs ys:List V}
theorem ay.of{K:Za}(h:H a=some (.lst xs)):ay K H a xs:=.inl (.inl h)
theorem bT.of{K:Za}(h:H a=some (.tup xs)):bT K H a xs:=.inl (.inl h)
theorem Inv.list(I:Inv X J5 σ H s)(h:ay X.K H a xs):∃f:List Value,bg xs f/\PlainL s.heap a f.toArray/\xs.length<=aj:=by
 rcases h with h|⟨o,f,n,g,i,j,k,l,r⟩
 ·obtain⟨z,f,n,r,e⟩:=h.ok I.hok;exact⟨f,r,⟨_,n,e,rfl,rfl,rfl⟩,z⟩
 ·refine⟨f.toList,r,⟨o,n,I.kIn a o g,i,j,by simpa using k⟩,?_⟩;have e:=r.length;simp only[lT]at e;omega
theorem Inv.tuple(I:Inv X J5 σ H s)(h:bT X.K H a xs):∃f:List Value,bg xs f/\IsTup s.heap a f.toArray/\xs.length<=aj:=by
 rcases h with h|⟨o,f,n,g,i,j,k,r⟩
 ·obtain⟨z,f,r,p⟩:=h.ok I.hok;exact⟨f,r,p,z⟩
 ·refine⟨f.toList,r,⟨o,I.kIn a o g,i,n,by simpa using j⟩,?_⟩;have e:=r.length;simp only[lT]at e;omega
theorem Inv.list_inj(I:Inv X J5 σ H s)(h:ay X.K H a xs)(k:ay X.K H a ys):xs=ys:=by
 obtain⟨g,r,⟨o,n,e,_,_,d⟩,_⟩:=I.list h;obtain⟨f,l,⟨p,q,i,_,_,j⟩,_⟩:=I.list k;rw[e]at i;cases i;rw[d]at j;injection j with m _;have:g=f:=by simpa using congrArg Array.toList m
 subst this;exact r.inj l
theorem Inv.tuple_inj(I:Inv X J5 σ H s)(h:bT X.K H a xs)(k:bT X.K H a ys):xs=ys:=by
 obtain⟨g,r,⟨o,e,_,n,d⟩,_⟩:=I.tuple h;obtain⟨f,l,⟨p,i,_,q,j⟩,_⟩:=I.tuple k;rw[e]at i;cases i;rw[d]at j;injection j with m _;have:g=f:=by simpa using congrArg Array.toList m
 subst this;exact r.inj l
end
abbrev Cx.wish(X:Cx)(E:Zc):Cx:={ X with xe:=E }
abbrev Cx.nox(X:Cx):Cx:=X.wish fun _ _=>False
theorem Cx.Ok.wish{X:Cx}(ok:X.Ok)(E:Zc):(X.wish E).Ok :=
 ⟨ok.mod,ok.kind,ok.glob,ok.blt,ok.above,ok.inj,ok.has,ok.cab,ok.hd,ok.frames,ok.stk,ok.exf,ok.bs,ok.bsz,ok.noex,ok.exfs,ok.funs,ok.frf⟩
theorem Cx.Ok.unwish{X:Cx}{E:Zc}(ok:(X.wish E).Ok):X.Ok :=
 ⟨ok.mod,ok.kind,ok.glob,ok.blt,ok.above,ok.inj,ok.has,ok.cab,ok.hd,ok.frames,ok.stk,ok.exf,ok.bs,ok.bsz,ok.noex,ok.exfs,ok.funs,ok.frf⟩
section
variable{X:Cx}{J5:Zd}{σ:St}{H:Hp}{s:Shared}{E:Zc}
theorem Inv.wish(I:Inv X J5 σ H s)(E:Zc):Inv (X.wish E) J5 σ H s:=⟨I.ok.wish E,I.os,I.bare,I.base,I.loc,I.cell,I.free,I.freeC,I.pin,I.hok,I.len⟩
theorem Inv.unwish(I:Inv (X.wish E) J5 σ H s):Inv X J5 σ H s:=⟨I.ok.unwish,I.os,I.bare,I.base,I.loc,I.cell,I.free,I.freeC,I.pin,I.hok,I.len⟩
theorem SP.unwish{D:on}{f:Flow}{e:Shared}(h:SP (X.wish E) J5 D f e):SP X J5 D f e:=by
 cases f with
 |next=>obtain⟨σ',a,I,q⟩:=h;exact⟨σ',a,I.unwish,q⟩
 |brk=>obtain⟨σ',a,I,q⟩:=h;exact⟨σ',a,I.unwish,q⟩
 |cont=>obtain⟨σ',a,I,q⟩:=h;exact⟨σ',a,I.unwish,q⟩
 |ret u=>obtain⟨v,σ',a,I,r,q⟩:=h;exact⟨v,σ',a,I.unwish,r,q⟩
theorem CM.nox{st:List Stmt}{t:TS}(h:CM X.nox st t):CM X st t:=fun J5 s σ H D I a =>
 pU (h J5 s σ H D (I.wish _) a) (fun _ _ q=>q.unwish) fun _ _ z=>j4 z
end
section
variable{X:Cx}{st:Stmt}{rest:List Stmt}{t u:TS}{e:Expr}{te:TE}{pos:Pos}
def bC:TS:=fun D σ H=>D.nx σ H
def aq(t u:TS):TS:=fun D σ H=>t { D with nx:=u D } σ H
theorem aH:CM X [] bC:=fun _ _ σ H _ I h=>El ⟨σ,H,I,h⟩
theorem ac(g:PS X st t)(i:CM X rest u):CM X (st::rest) (aq t u):=by
 intro a s σ H D I h;refine wpAny_execs_cons (cS (g a s σ H { D with nx:=u D } I h) fun f j q=>?_);cases f with
 |next =>
  obtain⟨σ',k,l,q⟩:=q;exact i a j σ' k D l q
 |ret v=>exact q
 |brk=>exact q
 |cont=>exact q
theorem ag(a:PS X st t):CM X [st] t:=by
 intro g s σ H D I h;refine wpAny_execs_cons (cS (a g s σ H D I h) fun f i q=>?_);cases f with
 |next=>exact El q
 |ret v=>exact q
 |brk=>exact q
 |cont=>exact q
theorem Inv.quiet{a:Zd}{σ:St}{H:Hp}{s:Shared}(I:Inv X a σ H s):interactive X.env=false:=by simp[interactive,I.ok.kind]
def dR(te:TE):TS:=fun D σ H=>te σ H fun _ H1=>D.nx σ H1
theorem bH(a:PE X e te)(f:sV e none pos.line X.env=pure false:=by rfl):PS X (.Expr e pos) (dR te):=by
 intro g s σ H D I h;exact wpAny_Expr_any (cS (a g s σ H _ I h) fun v l ⟨x,i,j,m,k⟩=>⟨σ,i,j,k⟩) I.quiet f
def aQ(te:TE):TS:=fun D σ H=>te σ H D.rt
theorem au(a:PE X e te):PS X (.Return (some e) pos) (aQ te):=by
 intro f s σ H D I h;exact wpAny_Return_some (cS (a f s σ H _ I h) fun v l ⟨x,g,i,j,k⟩=>⟨x,σ,g,i,j,k⟩)
def cG(c:TT)(t u:TS):TS:=fun D σ H=>c σ H fun b H1=>if b=true then t D σ H1 else u D σ H1
theorem bD{c:Expr}{a b:List Stmt}{i:TT}(n:PT X c i)(o:CM X a t)(p:CM X b u):PS X (.If c a b pos) (cG i t u):=by
 intro f s σ H D I h;refine wpAny_If (cS (n f s σ H _ I h) fun d j g=>?_);obtain⟨k,l,m⟩:=g;cases d with
 |true=>exact o f j σ k D l m
 |false=>exact p f j σ k D l m
def rS:TS:=fun _ _ _=>False
theorem mF:PS X st rS:=fun _ _ _ _ _ _ h=>h.elim
end
abbrev TG:=V->St->Hp->(St->Hp->Prop)->Prop
abbrev Hi:=List V->St->Hp->(St->Hp->Prop)->Prop
def PG(X:Cx)(target:Expr)(t:TG):Prop :=
 ∀(J5:Zd) (s:Shared) (σ:St) (H:Hp) (v:V) (u:Value) (Q:St->Hp->Prop),Inv X J5 σ H s->RelV v u->t v σ H Q ->
  wpAny (model X.prog X.w) X.A (assign target X.env u) (fun _ s'=>∃σ' H',Inv X J5 σ' H' s'/\Q σ' H') X.xe s
def M8(X:Cx)(ts:List Expr)(t:Hi):Prop :=
 ∀(J5:Zd) (s:Shared) (σ:St) (H:Hp) (vs:List V) (us:Zf) (Q:St->Hp->Prop),Inv X J5 σ H s->bg vs us->t vs σ H Q ->
  wpAny (model X.prog X.w) X.A (assignInOrder ((xm ts X.env).map (·.2)) us) (fun _ s'=>∃σ' H',Inv X J5 σ' H' s'/\Q σ' H') X.xe s
abbrev Mb:=V->V->V->Hp->(Hp->Prop)->Prop
def ML(X:Cx)(t:Mb):Prop :=
 ∀(J5:Zd) (s:Shared) (σ:St) (H:Hp) (o i v:V) (ov iv u:Value) (Q:Hp->Prop),Inv X J5 σ H s->RelV o ov->RelV i iv->RelV v u->t o i v H Q ->
  wpAny (model X.prog X.w) X.A (setItem ov iv u) (fun _ s'=>∃H',Inv X J5 σ H' s'/\Q H') X.xe s
abbrev M7:=V->V->Hp->VK->Prop
def PIp(X:Cx)(op:Operator)(t:M7):Prop :=
 ∀(J5:Zd) (s:Shared) (σ:St) (H:Hp) (x y:V) (v u:Value) (Q:VK),Inv X J5 σ H s->RelV x v->RelV y u->t x y H Q ->
  wpAny (model X.prog X.w) X.A (inplaceOp op v u) (EP X J5 σ Q) X.xe s
section
variable{X:Cx}{pos:Pos}
def eD(i:Nat):TG:=fun v σ H Q=>Q (σ.set i (some v)) H
abbrev U0:TG:=eD 0
abbrev U1:TG:=eD 1
abbrev U2:TG:=eD 2
abbrev U3:TG:=eD 3
abbrev U4:TG:=eD 4
abbrev U5:TG:=eD 5
abbrev U6:TG:=eD 6
abbrev U7:TG:=eD 7
abbrev U8:TG:=eD 8
abbrev U9:TG:=eD 9
abbrev Mh:TG:=eD 10
abbrev M5:TG:=eD 11
abbrev U12:TG:=eD 12
abbrev U13:TG:=eD 13
abbrev U14:TG:=eD 14
theorem EG{i:Nat}{x:Str}(a:X.N.Nodup)(e:X.N[i]?=some x)(f:Loc X.env.scope x)(g:X.fn x=true∨X.env.scope.names.lookup x=some .local:=by first|exact .inl rfl|exact .inr rfl|assumption):PG X (.Name x pos) (eD i):=by
 intro k s σ H v u Q I r h;exact wpAny_assign_Name (vp I a e f r (fun l j=>⟨_,H,j,h⟩) g)
def gM:Hi:=fun vs σ H Q=>vs=[]/\Q σ H
def aY(t:TG)(u:Hi):Hi:=fun vs σ H Q=>∃v r,vs=v::r/\t v σ H fun σ' H'=>u r σ' H' Q
theorem cg:M8 X [] gM:=by
 intro a s σ H f g Q I r h;obtain⟨e,h⟩:=h;subst e;cases r;exact assignInOrder_nil ⟨σ,H,I,h⟩
theorem av{e:Expr}{a:List Expr}{t:TG}{u:Hi}(i:PG X e t)(j:M8 X a u)
  (k:(xm (e::a) X.env).map (·.2)=assign e X.env::(xm a X.env).map (·.2):=by rfl):M8 X (e::a) (aY t u):=by
 intro g s σ H w x Q I r h;obtain⟨v,y,l,h⟩:=h;subst l;cases r with
 |cons r m =>
  rw[k];refine assignInOrder_cons (cS (i g s σ H _ _ _ I r h) fun _ n f=>?_);obtain⟨σ1,o,p,q⟩:=f;exact j g n σ1 o _ _ Q p m q
def g6(K:Za)(n:Nat)(t:Hi):TG:=fun v σ H Q=>∃a xs,v=.ref a/\bT K H a xs/\xs.length=n/\t xs σ H Q
theorem cU{f:List Expr}{k:Nat}{t:Hi}{n:Nat}(m:X.calm=true)(h:M8 X f t)
  (p:(xm f X.env).length=n:=by rfl) (g:(xm f X.env).findIdx? (·.1)=none:=by rfl):PG X (.Tuple f k pos) (g6 X.K n t):=by
 intro j s σ H v u Q I r i;obtain⟨a,q,w,x,y,i⟩:=i;subst w;cases r;obtain⟨z,l,A,E⟩:=I.tuple x;refine assign_Tuple_tuple (I.ok.hd m) A (by simp[p,<-y,l.length]) g fun B C=>?_;have D:Inv X j σ H { s with heap:=B }:=I.kept (t':=s.toks) fun b o e=>C b o (cX (aM e)) e;exact h j _ σ H q _ Q D (by simpa using l) i
def xa(to ti:TE)(t:Mb):TG:=fun v σ H Q=>to σ H fun o H1=>ti σ H1 fun i H2=>t o i v H2 fun H3=>Q σ H3
theorem mG{o i:Expr}{to j:TE}{t:Mb}(k:PE X o to)(l:PE X i j)(m:ML X t)
  (n:∀v,assign (.Subscript o i pos) X.env v=(do
   let e <- lU [v] (eval o X.env)
   let f <- lU [v,e] (eval i X.env)
   sW pos
   lU [v,e,f] (setItem e f v)
   release [v,e,f] []):=by intro _;rfl):PG X (.Subscript o i pos) (xa to j t):=by
 intro g s σ H v u Q I r h;rw[n];refine am (j6 (cS (k g s σ H _ I h) fun e p a=>?_));obtain⟨x,q,w,z,A⟩:=a;refine am (j6 (cS (l g p σ q _ w A) fun f B a=>?_));obtain⟨y,C,D,E,G⟩:=a;refine am (wpAny_standAt (am (j6 (cS (m g B σ C x y v e f u _ D z E r G) fun _ N a=>?_))));obtain⟨J,L,M⟩:=a;exact wpAny_release ⟨σ,J,L,M⟩
def aI(te:TE)(g:TG):TS:=fun D σ H=>te σ H fun x H1=>g x σ H1 D.nx
theorem ii{tg e:Expr}{f:TE}{g:TG}(j:PE X e f)(k:PG X tg g)(l:swapsWithSole [tg] e pos.line X.env=pure false:=by rfl)(m:swappedStores [tg] e X.env=pure none:=by rfl)
  (n:(xm [tg] X.env).map (·.2)=[assign tg X.env]:=by rfl):PS X (.Assign [tg] e pos) (aI f g):=by
 intro i s σ H D I h;refine wpAny_Assign_stores (cS (j i s σ H _ I h) fun v o a=>?_) l m;obtain⟨x,p,r,t,u⟩:=a;rw[n];exact cS (k i o σ p x v _ r t u) fun _ w q=>q
theorem LK{i:Nat}{x:Str}{e:Expr}{g:TE}{a:Pos}(j:X.N.Nodup)(k:X.N[i]?=some x)(l:Loc X.env.scope x)(m:PE X e g)(n:sV e (some (.Name x a)) pos.line X.env=pure false:=by rfl)(o:X.fn x=true∨X.env.scope.names.lookup x=some .local:=by first|exact .inl rfl|exact .inr rfl|assumption):
  PS X (.Assign [.Name x a] e pos) (aI g (eD i)):=by
 intro p s σ H D I h;refine wpAny_Assign_Name (cS (m p s σ H _ I h) fun v z f=>?_) n;obtain⟨y,q,r,t,u⟩:=f;exact vp r j k l t (fun A w=>⟨_,q,w,u⟩) o
def JQ(i:Nat)(te:TE)(ti:M7):TS:=fun D σ H=>∃x,σ[i]?=some (some x)/\te σ H fun y H1=>ti x y H1 fun z H2=>D.nx (σ.set i (some z)) H2
theorem Ds{i:Nat}{x:Str}{e:Expr}{t:TE}{o:Operator}{B:M7}{g:Pos}(G:X.N.Nodup)(C:X.N[i]?=some x)(p:Loc X.env.scope x)(J:PE X e t)(L:PIp X o B)(M:X.fn x=true∨X.env.scope.names.lookup x=some .local:=by first|exact .inl rfl|exact .inr rfl|assumption):
  PS X (.AugAssign (.Name x g) o e pos) (JQ i t B):=by
 intro J5 s σ H D I h;obtain⟨v,O,h⟩:=h;obtain⟨m,Q,T⟩:=I.loc;have q:MY X.env.scope x:=by rcases p with k|k;exact .inl k;exact .inr (.inl k)
 obtain⟨u,r,l⟩:=T i x v C O q;refine wpAny_AugAssign_Name ?_;have E:wpAny (model X.prog X.w) X.A (eval e X.env) (fun w j=>wpAny (model X.prog X.w) X.A (inplaceOp o u w) (fun r n=>wpAny (model X.prog X.w) X.A (storeName X.env x r) (fun _=>SP X J5 D .next) X.xe n) X.xe j) X.xe s:=by
  refine cS (J J5 s σ H _ I h) fun w U a=>?_;obtain⟨y,Y,I1,r1,q1⟩:=a;refine cS (L J5 U σ Y v y u w _ I1 r r1 q1) fun z s2 a=>?_;obtain⟨zv,H2,I2,r2,q2⟩:=a;exact vp I2 G C p r2 (fun s3 I3=>⟨_,H2,I3,q2⟩) M
 rcases l with⟨hk,hm⟩|⟨hk,c,hc,f⟩
 ·exact wpAny_loadName_local I.ok.kind hk Q hm E
 ·rcases hk with hk|hk
  ·exact wpAny_loadName_cell I.ok.kind hk hc f E
  ·rcases p with k|k
   ·have:X.env.scope.names.lookup x=some .free:=hk;rw[k]at this;cases this
   ·have:X.env.scope.names.lookup x=some .free:=hk;rw[k]at this;cases this
def ME(f:Int->Int->Int):M7:=fun x y H Q=>∃i j,x=.int i/\y=.int j/\Q (.int (f i j)) H
theorem IP:PIp X .Add (ME fun i j=>i+j):=by
 intro k s σ H x y v u Q I a e h;obtain⟨i,j,f,g,q⟩:=h;subst f;subst g;obtain⟨t,rfl⟩:=a;obtain⟨l,rfl⟩:=e;exact iadd_int ⟨.int _,H,I.tok _,⟨_,rfl⟩,q⟩
theorem LV:PIp X .Sub (ME fun i j=>i-j):=by
 intro k s σ H x y v u Q I a e h;obtain⟨i,j,f,g,q⟩:=h;subst f;subst g;obtain⟨t,rfl⟩:=a;obtain⟨l,rfl⟩:=e;exact isub_int ⟨.int _,H,I.tok _,⟨_,rfl⟩,q⟩
end
section
variable{X:Cx}{pos:Pos}
def vg(c:TT)(tb:TS):TS:=fun D σ H=>∃W:Nat->St->Hp->Prop,(∃m,W m σ H)/\∀m σ H,W m σ H ->
 c σ H fun b H1=>if b=true then ∃N:St->Hp->Prop,(∀σ' H',N σ' H'->∃m',m'<m/\W m' σ' H')/\tb { D with nx:=N,ct:=N,bk:=D.nx } σ H1 else D.nx σ H1
theorem qF{c:Expr}{a:List Stmt}{q:TT}{r:TS}(t:PassesOwn (model X.prog X.w) X.A X.env X.xe)(C:PT X c q)(E:CM X a r):PS X (.While c a [] pos) (vg q r):=by
 intro J5 s σ H D I h;obtain⟨W,⟨G,J⟩,turn⟩:=h;refine wpAny_While (codeAny_whileLoop (fun n L=>∃σ' u,Inv X J5 σ' u L/\W n σ' u) ?_ G ⟨σ,H,I,J⟩);rintro n M ⟨σ1,x,O,Q⟩;refine uD t (cS (C J5 M σ1 x _ O (turn n σ1 x Q)) fun b T j=>?_);obtain⟨y,z,g⟩:=j;cases b with
 |true =>
  obtain⟨N,B,g⟩:=g;rw[if_pos rfl];refine uD t (cS (E J5 T σ1 y _ z g) fun f U i=>?_);cases f with
  |next =>
   obtain⟨σ3,e,k,l⟩:=i;obtain⟨m,o,p⟩:=B σ3 e l;exact⟨m,o,σ3,e,k,p⟩
  |cont =>
   obtain⟨σ3,e,k,l⟩:=i;obtain⟨m,o,p⟩:=B σ3 e l;exact⟨m,o,σ3,e,k,p⟩
  |brk=>exact i
  |ret v=>exact i
 |false =>
  rw[if_neg jc];exact El ⟨σ1,y,z,g⟩
end
structure It where
 go:Nat->Hp->Prop
 yld:Nat->Hp->V->Hp->Prop
 stop:Nat->Hp->Prop
def om(X:Cx)(J5:Zd)(H:Hp)(b:Addr):Prop :=
 H b=none/\b≠X.env.locals/\b∉X.fs/\(b∈X.ex∨X.s₀.heap.objs.size<=b)/\(∀x c,X.env.cells.lookup x=some c->c≠b)/\∀p∈X.pn++J5,p.1≠b
theorem Inv.fpOk{X:Cx}{f:Zd}{σ:St}{H g:Hp}{s:Shared}{b:Addr}(I:Inv X f σ H s)(a:s.heap.objs.size<=b)(h:g b=none):om X f g b:=by
 refine⟨h,eX (dZ I.lt a),I.nofs a,.inr (aD I.sz a),fun x c e z=>?_,fun p i z=>?_⟩
 ·obtain⟨v,q⟩:=I.cell x c e;exact absurd (dZ q.lt (by rw[z];exact a)) (lG _)
 ·exact absurd (dZ (aM (I.pin p i).1) (by rw[z];exact a)) (lG _)
structure t_(P:bZ)(w:World)(K:Za)(tg:Expr)(J:It)(fp:Ze)(it:Addr)(tn:Nat->Heap->Prop):Prop where
 mem:it∈fp
 obj:∀i h,tn i h->∀b∈fp,∃o,h.get? b=some o/\∀v,o.data≠.cell v
 keep:∀i h h',tn i h->(∀b∈fp,∀o,h.get? b=some o->h'.get? b=some o)->tn i h'
 item:∀(X:Cx),X.prog=P->X.w=w->X.K=K->X.calm=true->∀(i:Nat) (J5:Zd) (s:Shared) (σ:St) (H:Hp) (E:Zc),Inv X J5 σ H s->(∀b∈fp,om X J5 H b)->tn i s.heap->J.go i H ->
  wpAny (model P w) X.A (pyNext (.ref it)) (fun r s1=>∃u,r=some u /\
   wpAny (model P w) X.A (Ek tg (.ref it) u) (fun _ s2=>∃x H',Inv X J5 σ H' s2/\RelV x u/\J.yld i H x H'/\tn (i+1) s2.heap/\∀b∈fp,H' b=none) E s1) E s
 done:∀(X:Cx),X.prog=P->X.w=w->X.K=K->X.calm=true->∀(i:Nat) (J5:Zd) (s:Shared) (σ:St) (H:Hp) (E:Zc),Inv X J5 σ H s->(∀b∈fp,om X J5 H b)->tn i s.heap->J.stop i H ->
  wpAny (model P w) X.A (pyNext (.ref it)) (fun r s1=>r=none/\Inv X J5 σ H s1) E s
 self:∀(A:Around) (i:Nat) (s:Shared) (Q:Zc) (E:Zc),tn i s.heap->Q (.ref it) s->wpAny (model P w) A (pyIter (.ref it)) Q E s
abbrev TI:=St->Hp->(It->Hp->Prop)->Prop
def PIE(X:Cx)(J5:Zd)(σ:St)(tg:Expr)(R:It->Hp->Prop)(itv:Value)(s2:Shared):Prop :=
 ∃(it:Addr) (fp:Ze) (tn:Nat->Heap->Prop) (J:It) (H':Hp),itv=.ref it/\Inv X J5 σ H' s2/\t_ X.prog X.w X.K tg J fp it tn/\tn 0 s2.heap/\(∀b∈fp,om X J5 H' b)/\R J H'
def PI(X:Cx)(tg iter:Expr)(wi:TI):Prop :=
 ∀(J5:Zd) (s:Shared) (σ:St) (H:Hp) (R:It->Hp->Prop),Inv X J5 σ H s->wi σ H R ->
  wpAny (model X.prog X.w) X.A (eval iter X.env) (fun v s1=>wpAny (model X.prog X.w) X.A (pyIter v) (PIE X J5 σ tg R) X.xe s1) X.xe s
theorem vT{M:Model}{A:Around}{E:Zc}{s:Shared}{e:Expr}{it:Addr}{u:Value}{o:Obj}{n:String}{f:Array Value}{Q:Unit->Shared->Prop}(g:s.heap.get? it=some o)(i:o.cls=.type n)(j:o.data=.fields f)
    (k:["enumerate","zip","dict_itemiterator","dict_reverseitemiterator","odict_iterator","itertools.zip_longest","itertools.pairwise"].contains n=false) (a:Q () s):wpAny M A (Ek e (.ref it) u) Q E s:=by
  unfold Ek;cases e<;>first
    |exact aR a
    | (cases u <;> first
        |exact aR a
        | (refine am (wpAny_load g ?_)
           rw[i,j];show wpAny M A (if(["enumerate","zip","dict_itemiterator","dict_reverseitemiterator","odict_iterator","itertools.zip_longest","itertools.pairwise"].contains n && f[0]?==some (rawInt _))=true then _ else _) Q E s
           rw[if_neg (by intro h;rw[k,Bool.false_and]at h;cases h)];exact aR a))
def Jw(K:Za)(a:Addr):It :=
 ⟨fun i H=>∃xs x,ay K H a xs/\xs[i]?=some x,fun i H x H'=>H'=H/\∀xs,ay K H a xs->xs[i]?=some x,fun i H=>∃xs,ay K H a xs/\xs.length<=i⟩
def Ls(K:Za)(a:Addr):It :=
 ⟨fun i H=>∃xs x,bT K H a xs/\xs[i]?=some x,fun i H x H'=>H'=H/\∀xs,bT K H a xs->xs[i]?=some x,fun i H=>∃xs,bT K H a xs/\xs.length<=i⟩
def Md(lo:Int)(n:Nat):It:=⟨fun i _=>i<n,fun i H x H'=>H'=H/\x=.int (lo+i),fun i _=>n<=i⟩
theorem xp{P:bZ}{w:World}{K:Za}{O:Expr}(a it:Addr):t_ P w K O (Jw K a) [it] it (fun i h=>h.IsListIter it a i) where
 mem:=by simp
 obj:=fun i h st b f=>by
  have e:b=it:=by simpa using f
  subst e;obtain⟨o,e,c,d⟩:=st;exact⟨o,e,fun v z=>by rw[d]at z;cases z⟩
 keep:=fun i h j st k=>st.at fun o e=>k it (by simp) o e
 item:=by
  intro X n q r M i N s σ H E I l st t;subst n q r;obtain⟨Q,x,m,y⟩:=t;obtain⟨A,B,p,T⟩:=I.list m;obtain⟨u,U,Y⟩:=B.get y;obtain⟨C,D,f2,G,J,L⟩:=l it (by simp);refine wpAny_pyNext_list_item st p.isList (x:=u) (by simpa using U) fun j g sb=>?_;have I1:Inv X N σ H { s with heap:=j }:=I.turned (t':=s.toks) (fun b o f e=>(sb.2 b f).trans e) C D G J L;obtain⟨o,e,c,d⟩:=id g;exact⟨u,rfl,vT (s:={ s with heap:=j }) e c d (by decide) ⟨x,H,I1,Y,⟨rfl,fun ys hy=>by rw[I.list_inj hy m];exact y⟩,g,fun b f=>(l b f).1⟩⟩
 done:=by
  intro X n q r M i N s σ H E I l st t;subst n q r;obtain⟨Q,m,y⟩:=t;obtain⟨A,B,p,T⟩:=I.list m;obtain⟨C,D,f2,G,J,L⟩:=l it (by simp);have hl:=B.length;exact wpAny_pyNext_list_end (I.ok.hd M) st p.isList (by simp;omega) fun j eb=>⟨rfl,I.turned (t':=s.toks) (fun b o f e=>eb b o f e) C D G J L⟩
 self:=fun _ _ _ _ _ st h=>wpAny_pyIter_listiter st h
theorem u_{P:bZ}{w:World}{K:Za}{O:Expr}(a it:Addr):t_ P w K O (Ls K a) [it] it (fun i h=>h.IsTupleIter it a i) where
 mem:=by simp
 obj:=fun i h st b f=>by
  have e:b=it:=by simpa using f
  subst e;obtain⟨o,e,c,d⟩:=st;exact⟨o,e,fun v z=>by rw[d]at z;cases z⟩
 keep:=fun i h l st k=>st.at fun o e=>k it (by simp) o e
 item:=by
  intro X q r t M i N s σ H E I m st y;subst q r t;obtain⟨Q,x,n,A⟩:=y;obtain⟨g,B,p,T⟩:=I.tuple n;obtain⟨u,U,Y⟩:=B.get A;obtain⟨C,D,f2,G,J,L⟩:=m it (by simp);refine wpAny_pyNext_tuple_item st (show s.heap.IsTuple a g.toArray from p) (x:=u) (by simpa using U) fun l j sb=>?_;have I1:Inv X N σ H { s with heap:=l }:=I.turned (t':=s.toks) (fun b o f e=>(sb.2 b f).trans e) C D G J L;obtain⟨o,e,c,d⟩:=id j;exact⟨u,rfl,vT (s:={ s with heap:=l }) e c d (by decide) ⟨x,H,I1,Y,⟨rfl,fun ys hy=>by rw[I.tuple_inj hy n];exact A⟩,j,fun b f=>(m b f).1⟩⟩
 done:=by
  intro X q r t M i N s σ H E I m st y;subst q r t;obtain⟨Q,n,A⟩:=y;obtain⟨g,B,p,T⟩:=I.tuple n;obtain⟨C,D,f2,G,J,L⟩:=m it (by simp);have hl:=B.length;exact wpAny_pyNext_tuple_end (I.ok.hd M) st (show s.heap.IsTuple a g.toArray from p) (by simp;omega) fun l eb=>⟨rfl,I.turned (t':=s.toks) (fun b o f e=>eb b o f e) C D G J L⟩
 self:=fun _ _ _ _ _ st h=>wpAny_pyIter_tupleiter st h
theorem CQ{P:bZ}{w:World}{K:Za}{D:Expr}(it:Addr)(lo:Int)(n:Nat):t_ P w K D (Md lo n) [it] it (fun i h=>IsRangeIter h it (lo+(i:Nat) * 1) ((n:Int)-(i:Nat)) 1) where
 mem:=by simp
 obj:=fun i h st b a=>by
  have e:b=it:=by simpa using a
  subst e;exact⟨_,st,fun v z=>by
   have G:Data.fields _=Data.cell v:=z;cases G⟩
 keep:=fun i h g st k=>k it (by simp) _ st
 item:=by
  intro X l m p q i C s σ H E I j st r;subst l m p;obtain⟨u,x,J,y,A,B⟩:=j it (by simp);have W:=Walks.range (prog:=X.prog) (w:=X.w) (I.ok.hd q) it lo 1 n;refine W.item i s _ _ r st fun v g tk L f M=>?_;obtain⟨t,rfl⟩:=L;have N:Inv X C σ H { s with heap:=g,toks:=tk }:=I.turned (fun b o a e=>M b o (by simpa using a) e) u x y A B;refine⟨_,rfl,vT (s:={ s with heap:=g,toks:=tk }) (n:="range_iterator") f rfl rfl (by decide) ⟨.int (lo+i),H,N,⟨t,?_⟩,⟨rfl,rfl⟩,f,fun b a=>(j b a).1⟩⟩;rw[Int.mul_one]
 done:=by
  intro X l m p q i C s σ H E I j st r;subst l m p;obtain⟨u,x,J,y,A,B⟩:=j it (by simp);exact wpAny_pyNext_range_end (I.ok.hd q) st (by have:n<=i:=r;omega) fun g O=>⟨rfl,I.turned (t':=s.toks) (fun b o a e=>O b o a e) u x y A B⟩
 self:=fun _ _ _ _ _ st h=>wpAny_pyIter_rangeiter st h
end L2
namespace L2
open PySem PySem.Spec PyProof.Rows
section
variable{X:Cx}{tg:Expr}
def cr(K:Za)(tl:TE):TI:=fun σ H R=>tl σ H fun x H1=>∃a,x=.ref a/\(∃xs,ay K H1 a xs)/\R (Jw K a) H1
def B_(K:Za)(tl:TE):TI:=fun σ H R=>tl σ H fun x H1=>∃a,x=.ref a/\(∃xs,bT K H1 a xs)/\R (Ls K a) H1
theorem aU{l:Expr}{j:TE}(k:PE X l j):PI X tg l (cr X.K j):=by
 intro m s σ H R I h;refine cS (k m s σ H _ I h) fun v f i=>?_;obtain⟨x,n,g,r,t⟩:=i;obtain⟨a,e,⟨z,u⟩,q⟩:=t;subst e;cases r;obtain⟨w,A,p,B⟩:=g.list u;refine uC p.isList ?_;refine⟨f.heap.objs.size,[f.heap.objs.size],_,_,n,rfl,g.kept (t':=f.toks) fun b o e=>a_ _ e,xp a _,⟨_,dh _ rfl,rfl,rfl⟩,fun b y=>?_,q⟩;have e:b=f.heap.objs.size:=by simpa using y
 subst e;exact g.fpOk (aB _) (g.hok.fresh (aB _))
theorem pj{l:Expr}{k:TE}(m:PE X l k):PI X tg l (B_ X.K k):=by
 intro n s σ H R I h;refine cS (m n s σ H _ I h) fun v f i=>?_;obtain⟨x,r,g,t,u⟩:=i;obtain⟨a,e,⟨z,w⟩,q⟩:=u;subst e;cases t;obtain⟨j,A,p,B⟩:=g.tuple w;refine wpAny_pyIter_tuple (show f.heap.IsTuple a j.toArray from p) ?_;refine⟨f.heap.objs.size,[f.heap.objs.size],_,_,r,rfl,g.kept (t':=f.toks) fun b o e=>a_ _ e,u_ a _,⟨_,dh _ rfl,rfl,rfl⟩,fun b y=>?_,q⟩;have e:b=f.heap.objs.size:=by simpa using y
 subst e;exact g.fpOk (aB _) (g.hok.fresh (aB _))
theorem HU{f:Zd}{σ:St}{H:Hp}{s:Shared}{R:It->Hp->Prop}{E:Zc}{lo a:Int}{t u v:Tok}{tk:Nat}(I:Inv X f σ H s)(h:-(2 ^ 62)<=lo)(i:lo<2 ^ 62)(j:-(2 ^ 62)<=a)(k:a<2 ^ 62)
  (q:R (Md lo (a-lo).toNat) H):wpAny (model X.prog X.w) X.A (pyIter (.ref s.heap.objs.size)) (PIE X f σ tg R) E { s with heap:=s.heap.push { cls:=.type "range",data:=.fields #[.int lo t,.int a u,.int 1 v] },toks:=tk }:=by
 refine wpAny_pyIter_range (IsRange.new ..) (small_one h i j k) ?_;have g:Inv X f σ H { s with heap:=s.heap.push { cls:=.type "range",data:=.fields #[.int lo t,.int a u,.int 1 v] },toks:=tk }:=I.kept fun b o e=>a_ _ e;refine⟨(s.heap.push { cls:=.type "range",data:=.fields #[.int lo t,.int a u,.int 1 v] }).objs.size,[(s.heap.push { cls:=.type "range",data:=.fields #[.int lo t,.int a u,.int 1 v] }).objs.size],_,_,H,rfl,
  g.kept (t':=tk) fun b o e=>a_ _ e,CQ _ lo (a-lo).toNat,?_,fun b l=>?_,q⟩
 ·have m:lo+((0:Nat):Int) * 1=lo:=by simp
  have n:(((a-lo).toNat:Nat):Int)-((0:Nat):Int)=cc.Range.rangeSize lo a 1:=by rw[rangeSize_one];split<;>omega
  show IsRangeIter _ _ (lo+((0:Nat):Int) * 1) ((((a-lo).toNat:Nat):Int)-((0:Nat):Int)) 1;rw[m,n];exact dh _ rfl
 ·have e:b=(s.heap.push { cls:=.type "range",data:=.fields #[.int lo t,.int a u,.int 1 v] }).objs.size:=by simpa using l
  subst e;exact g.fpOk (aB _) (g.hok.fresh (aB _))
def tt(ta:TA):TI:=fun σ H R=>ta σ H fun vs H1=>∃j:Int,vs=[.int j]/\-(2 ^ 62)<=j/\j<2 ^ 62/\R (Md 0 j.toNat) H1
theorem im{a:Expr}{k:TA}{p f:Pos}(l:Gl X "range")(m:X.mg "range"=none)(n:PA X [a] k)(o:aK [a] X.env=[(false,eval a X.env)]:=by rfl):PI X tg (.Call (.Name "range" p) [a] [] f) (tt k):=by
 intro u s σ H R I h;refine Call_ (k9 I l m boot_range (sU (cS (n f u s σ H _ I h) fun z A g=>?_) o rfl));obtain⟨B,C,v,w,i⟩:=g;obtain⟨j,e,i,x,q⟩:=i;subst e;cases w with
 |cons r y =>
  cases y;obtain⟨t,rfl⟩:=r;exact call_range_1 (HU v (by omega) (by omega) i x (by simpa using q))
def fA(wi:TI)(g:TG)(tb:TS):TS:=fun D σ H=>wi σ H fun J H1=>∃W:Nat->Nat->St->Hp->Prop,(∃m,W 0 m σ H1)/\∀i m σ H,W i m σ H ->
 (J.stop i H/\D.nx σ H)∨(J.go i H/\∃N:St->Hp->Prop,(∀σ' H',N σ' H'->∃m',m'<m/\W (i+1) m' σ' H')/\∀x H',J.yld i H x H'->g x σ H' fun σ2 H2=>tb { D with nx:=N,ct:=N,bk:=D.nx } σ2 H2)
def vB(fp:Ze)(h:Heap):List (Addr×Obj):=fp.filterMap fun b=>(h.get? b).map fun o=>(b,o)
theorem k7{fp:Ze}{h:Heap}{b:Addr}{o:Obj}(a:b∈fp)(e:h.get? b=some o):(b,o)∈vB fp h:=List.mem_filterMap.mpr ⟨b,a,by rw[e];rfl⟩
theorem Gj{a:Ze}{h:Heap}{p:Addr×Obj}(f:p∈vB a h):p.1∈a/\h.get? p.1=some p.2:=by
 obtain⟨b,g,e⟩:=List.mem_filterMap.mp f;cases q:h.get? b with
 |none=>rw[q]at e;cases e
 |some o =>
  rw[q]at e;have i:(b,o)=p:=f6 e;subst i;exact⟨g,q⟩
theorem Inv.pinned{a:Zd}{σ:St}{H:Hp}{s:Shared}{f:Ze}(I:Inv X a σ H s)(i:∀b∈f,om X a H b)(j:∀b∈f,∃o,s.heap.get? b=some o/\∀v,o.data≠.cell v):Inv X (a++vB f s.heap) σ H s :=
 I.pins_of fun p k=>(bL.mp k).elim (fun z=>I.pin p (dP _ z)) fun z=>by
  obtain⟨g,e⟩:=Gj z;obtain⟨l,m,n,_⟩:=i p.1 g;obtain⟨o,h,d⟩:=j p.1 g;rw[e]at h;cases h;exact⟨e,l,m,n,d⟩
theorem Inv.unpinned{a e:Zd}{σ:St}{H:Hp}{s:Shared}(I:Inv X (a++e) σ H s):Inv X a σ H s:=I.pins_of fun p f=>I.pin p (dP _ (dz _ f))
theorem bN{j:Expr}{y:List Stmt}{wi:TI}{g:TG}{tb:TS}{U:Pos}(E:PassesOwn (model X.prog X.w) X.A X.env X.xe)(hc:X.calm=true)(hi:PI X tg j wi)(hg:PG X tg g)(k:CM X y tb)
  (hs:∀x,Bd j X.env x=pure x:=by intro _;rfl):PS X (.For tg j y [] U) (fA wi g tb):=by
 intro B s σ H D I h;refine wpAny_For (cS (hi B s σ H _ I h) fun v s1 h1=>cS h1 fun ap s2 h2=>?_) hs;obtain⟨it,G,tn,J,H2,e,I2,T,Y,f2,W,⟨m0,w0⟩,turn⟩:=h2;subst e;have l:∀{t:Hp},(∀b∈G,t b=none)->∀b∈G,om X B t b:=fun hn b k=>⟨hn b k,(f2 b k).2⟩;refine codeAny_forLoop_any (fun n s'=>∃i σ' t,Inv X B σ' t s'/\tn i s'.heap/\(∀b∈G,t b=none)/\W i n σ' t) ?_ m0 ⟨0,σ,H2,I2,Y,fun b k=>(f2 b k).1,w0⟩;rintro n s3 ⟨i,σ3,Q,I3,L,M,w3⟩;rcases turn i n σ3 Q w3 with⟨stop,qn⟩|⟨go,N,hN,step⟩
 ·refine uD E (cS (T.done X rfl rfl rfl hc i B s3 σ3 Q X.xe I3 (l M) L stop) fun r s4 a=>?_);obtain⟨hr,I4⟩:=a;subst hr;exact El ⟨σ3,Q,I4,qn⟩
 ·refine uD E (cS (T.item X rfl rfl rfl hc i B s3 σ3 Q X.xe I3 (l M) L go) fun r s4 a=>?_);obtain⟨u,hr,h4⟩:=a;subst hr;refine uD E (cS h4 fun _ s5 a=>?_);obtain⟨x,H5,I5,r5,y5,C,al⟩:=a;have an:=I5.pinned (l al) (T.obj _ _ C);refine uD E (cS (hg _ s5 σ3 H5 x u _ an r5 (step x H5 y5)) fun _ s6 a=>?_);obtain⟨σ6,H6,I6,q6⟩:=a;refine uD E (cS (k _ s6 σ6 H6 _ I6 q6) fun f s7 z=>?_);have again:∀{σ7:St}{p:Hp},Inv X (B++vB G s5.heap) σ7 p s7->N σ7 p->∃m,m<n/\∃i σ' t,Inv X B σ' t s7/\tn i s7.heap/\(∀b∈G,t b=none)/\W i m σ' t:=fun{σ7 p} q O=>by
   obtain⟨m',hm,w7⟩:=hN σ7 p O;refine⟨m',hm,i+1,σ7,p,q.unpinned,T.keep _ _ _ C fun b k o e=>(q.pin (b,o) (dP _ (dP _ (k7 k e)))).1,fun b k=>?_,w7⟩;obtain⟨o,e,d⟩:=T.obj _ _ C b k;exact(q.pin (b,o) (dP _ (dP _ (k7 k e)))).2.1
  cases f with
  |next=>obtain⟨σ7,p,q,O⟩:=z;exact again q O
  |cont=>obtain⟨σ7,p,q,O⟩:=z;exact again q O
  |brk=>obtain⟨σ7,p,q,z⟩:=z;exact⟨σ7,p,q.unpinned,z⟩
  |ret v=>obtain⟨x7,σ7,p,q,r7,z⟩:=z;exact⟨x7,σ7,p,q.unpinned,r7,z⟩
end
theorem cN{K:Za}{a:Addr}{xs:List V}{g:TG}{k:TS}{D:on}{σ:St}{H:Hp}(Pv:Nat->St->Hp->Prop)(n:Pv 0 σ H)(o:∀i σ H,i<=xs.length->Pv i σ H->ay K H a xs)
  (r:∀i x σ H,xs[i]?=some x->Pv i σ H->g x σ H fun σ2 j=>k { D with nx:=Pv (i+1),ct:=Pv (i+1),bk:=D.nx } σ2 j) (s:∀σ H,Pv xs.length σ H->D.nx σ H) :
  ∃W:Nat->Nat->St->Hp->Prop,(∃m,W 0 m σ H)/\∀i m σ H,W i m σ H ->
   ((Jw K a).stop i H/\D.nx σ H)∨((Jw K a).go i H/\∃N:St->Hp->Prop,(∀σ' f,N σ' f->∃l,l<m/\W (i+1) l σ' f)/\∀x f,(Jw K a).yld i H x f->g x σ f fun σ2 j=>k { D with nx:=N,ct:=N,bk:=D.nx } σ2 j):=by
 refine⟨fun i m σ H=>m=xs.length-i/\i<=xs.length/\Pv i σ H,⟨xs.length,by simp,cL _,n⟩,?_⟩;rintro i m σ H ⟨rfl,t,p⟩;have q:=o i σ H t p;by_cases h:i<xs.length
 ·refine .inr ⟨⟨xs,xs[i],q,by simp[h]⟩,Pv (i+1),fun σ' f u=>⟨xs.length-(i+1),by omega,rfl,h,u⟩,fun x f y=>?_⟩;obtain⟨e,y⟩:=y;subst e;exact r i x σ _ (y xs q) p
 ·have e:i=xs.length:=by omega
  subst e;exact .inl ⟨⟨xs,q,aB _⟩,s σ H p⟩
theorem E_{K:Za}{a:Addr}{xs:List V}{g:TG}{k:TS}{D:on}{σ:St}{H:Hp}(Pv:Nat->St->Hp->Prop)(n:Pv 0 σ H)(o:∀i σ H,i<=xs.length->Pv i σ H->bT K H a xs)
  (r:∀i x σ H,xs[i]?=some x->Pv i σ H->g x σ H fun σ2 j=>k { D with nx:=Pv (i+1),ct:=Pv (i+1),bk:=D.nx } σ2 j) (s:∀σ H,Pv xs.length σ H->D.nx σ H) :
  ∃W:Nat->Nat->St->Hp->Prop,(∃m,W 0 m σ H)/\∀i m σ H,W i m σ H ->
   ((Ls K a).stop i H/\D.nx σ H)∨((Ls K a).go i H/\∃N:St->Hp->Prop,(∀σ' f,N σ' f->∃l,l<m/\W (i+1) l σ' f)/\∀x f,(Ls K a).yld i H x f->g x σ f fun σ2 j=>k { D with nx:=N,ct:=N,bk:=D.nx } σ2 j):=by
 refine⟨fun i m σ H=>m=xs.length-i/\i<=xs.length/\Pv i σ H,⟨xs.length,by simp,cL _,n⟩,?_⟩;rintro i m σ H ⟨rfl,t,p⟩;have q:=o i σ H t p;by_cases h:i<xs.length
 ·refine .inr ⟨⟨xs,xs[i],q,by simp[h]⟩,Pv (i+1),fun σ' f u=>⟨xs.length-(i+1),by omega,rfl,h,u⟩,fun x f y=>?_⟩;obtain⟨e,y⟩:=y;subst e;exact r i x σ _ (y xs q) p
 ·have e:i=xs.length:=by omega
  subst e;exact .inl ⟨⟨xs,q,aB _⟩,s σ H p⟩
theorem jb{lo:Int}{n:Nat}{g:TG}{j:TS}{D:on}{σ:St}{H:Hp}(Pv:Nat->St->Hp->Prop)(l:Pv 0 σ H)
  (o:∀i σ H,i<n->Pv i σ H->g (.int (lo+i)) σ H fun σ2 h=>j { D with nx:=Pv (i+1),ct:=Pv (i+1),bk:=D.nx } σ2 h) (q:∀σ H,Pv n σ H->D.nx σ H) :
  ∃W:Nat->Nat->St->Hp->Prop,(∃m,W 0 m σ H)/\∀i m σ H,W i m σ H ->
   ((Md lo n).stop i H/\D.nx σ H)∨((Md lo n).go i H/\∃N:St->Hp->Prop,(∀σ' a,N σ' a->∃k,k<m/\W (i+1) k σ' a)/\∀x a,(Md lo n).yld i H x a->g x σ a fun σ2 h=>j { D with nx:=N,ct:=N,bk:=D.nx } σ2 h):=by
 refine⟨fun i m σ H=>m=n-i/\i<=n/\Pv i σ H,⟨n,by simp,cL _,l⟩,?_⟩;rintro i m σ H ⟨rfl,s,p⟩;by_cases f:i<n
 ·refine .inr ⟨f,Pv (i+1),fun σ' a r=>⟨n-(i+1),by omega,rfl,f,r⟩,fun x a y=>?_⟩;obtain⟨e,y⟩:=y;subst e y;exact o i σ _ f p
 ·have e:i=n:=by omega
  subst e;exact .inl ⟨aB _,q σ H p⟩
end L2
namespace L2
open PySem PySem.Spec PyProof.Rows
abbrev R2:=V->V->Hp->VK->Prop
def nL(X:Cx)(f:Value->Value->Sem Value)(r:R2):Prop :=
 ∀(J5:Zd) (s:Shared) (σ:St) (H:Hp) (x y:V) (v u:Value) (Q:VK),Inv X J5 σ H s->RelV x v->RelV y u->r x y H Q ->
  wpAny (model X.prog X.w) X.A (f v u) (EP X J5 σ Q) X.xe s
def UnR(X:Cx)(f:Value->Sem Value)(r:V->Hp->VK->Prop):Prop :=
 ∀(J5:Zd) (s:Shared) (σ:St) (H:Hp) (x:V) (v:Value) (Q:VK),Inv X J5 σ H s->RelV x v->r x H Q ->
  wpAny (model X.prog X.w) X.A (f v) (EP X J5 σ Q) X.xe s
def g9(X:Cx)(f:Value)(r:List V->Hp->VK->Prop):Prop :=
 ∀(J5:Zd) (s:Shared) (σ:St) (H:Hp) (xs:List V) (us:Zf) (Q:VK),Inv X J5 σ H s->bg xs us->r xs H Q ->
  wpAny (model X.prog X.w) X.A (call f us) (EP X J5 σ Q) X.xe s
def az(r:R2)(ta tb:TE):TE:=fun σ H Q=>ta σ H fun x H1=>tb σ H1 fun y H2=>r x y H2 Q
def Jz(r:V->Hp->VK->Prop)(ta:TE):TE:=fun σ H Q=>ta σ H fun x H1=>r x H1 Q
def rI(C:Int->Int->Prop)(g:Int->Int->V):R2:=fun x y H Q=>∃i j,x=.int i/\y=.int j/\C i j/\Q (g i j) H
def Ez(g:Int->Int->V):R2:=fun x y H Q=>∃i j,x=.int i/\y=.int j/\Q (g i j) H
def rU(g:Int->V):V->Hp->VK->Prop:=fun x H Q=>∃i,x=.int i/\Q (g i) H
section
variable{X:Cx}{a b c:Expr}{ta tb tc:TE}{pos:Pos}
theorem Ma(n:PE X a ta)(o:PE X b tb){k:Zd}{s:Shared}{σ:St}{H:Hp}{R:V->V->Hp->Prop}(I:Inv X k σ H s)
  (h:ta σ H fun x m=>tb σ m fun y g=>R x y g) {Q:Zc}{f:Value->Value->Sem Value}
  (p:∀v u l x y g,Inv X k σ g l->RelV x v->RelV y u->R x y g->wpAny (model X.prog X.w) X.A (f v u) Q X.xe l) :
  wpAny (model X.prog X.w) X.A (eval a X.env) (fun v i=>wpAny (model X.prog X.w) X.A (eval b X.env) (fun u j=>wpAny (model X.prog X.w) X.A (f v u) Q X.xe j) X.xe i) X.xe s:=by
 refine cS (n k s σ H _ I h) fun v q e=>?_;obtain⟨x,m,r,t,z⟩:=e;refine cS (o k q σ m _ r z) fun u l e=>?_;obtain⟨y,g,B,C,D⟩:=e;exact p v u l x y g B t C D
theorem aE{e:Operator}{r:R2}(f:nL X (j3 e) r)(g:PE X a ta)(i:PE X b tb):PE X (.BinOp a e b pos) (az r ta tb):=by
 intro j s σ H Q I h;exact wpAny_BinOp (Ma g i I h fun v u k x y l m n o q=>f j k σ l x y v u Q m n o q)
theorem BP{e:UnaryOp}{r:V->Hp->VK->Prop}(g:UnR X (unaryOp e) r)(i:PE X a ta):PE X (.UnaryOp e a pos) (Jz r ta):=by
 intro f s σ H Q I h;exact UnaryOp_ (cS (i f s σ H _ I h) fun v j ⟨x,k,l,m,n⟩=>g f j σ k x v Q l m n)
theorem Mz{f:Value->Value->Sem Value}{C:Int->Int->Prop}{g:Int->Int->Int}
  (rule:∀(i j:Int) (t u:Tok) (s:Shared) (Q:Zc) (E:Zc),C i j->Q (.int (g i j) s.toks) { s with toks:=s.toks+1 }->wpAny (model X.prog X.w) X.A (f (.int i t) (.int j u)) Q E s) :
  nL X f (rI C fun i j=>.int (g i j)):=by
 intro n s σ H x y v u Q I e k h;obtain⟨i,j,rfl,rfl,l,q⟩:=h;obtain⟨t,rfl⟩:=e;obtain⟨m,rfl⟩:=k;exact rule i j t m s _ _ l ⟨.int (g i j),H,I.tok _,⟨_,rfl⟩,q⟩
theorem My{f:Value->Value->Sem Value}{g:Int->Int->Int}
  (rule:∀(i j:Int) (t u:Tok) (s:Shared) (Q:Zc) (E:Zc),Q (.int (g i j) s.toks) { s with toks:=s.toks+1 }->wpAny (model X.prog X.w) X.A (f (.int i t) (.int j u)) Q E s) :
  nL X f (Ez fun i j=>.int (g i j)):=by
 intro m s σ H x y v u Q I e k h;obtain⟨i,j,rfl,rfl,q⟩:=h;obtain⟨t,rfl⟩:=e;obtain⟨l,rfl⟩:=k;exact rule i j t l s _ _ ⟨.int (g i j),H,I.tok _,⟨_,rfl⟩,q⟩
theorem KA{f:Value->Value->Sem Value}{g:Int->Int->Bool}
  (rule:∀(i j:Int) (t u:Tok) (s:Shared) (Q:Zc) (E:Zc),Q (.bool (g i j)) s->wpAny (model X.prog X.w) X.A (f (.int i t) (.int j u)) Q E s) :
  nL X f (Ez fun i j=>.bl (g i j)):=by
 intro m s σ H x y v u Q I e k h;obtain⟨i,j,rfl,rfl,q⟩:=h;obtain⟨t,rfl⟩:=e;obtain⟨l,rfl⟩:=k;exact rule i j t l s _ _ ⟨.bl (g i j),H,I,rfl,q⟩
def MU(i j:Int):Prop:=0<j/\j<1073741824
def MT(i j:Int):Prop:=0<=j/\j<=1000000/\i.natAbs<2 ^ 64
def Jy(i j:Int):Prop:=(-(2 ^ 64)<i/\i<2 ^ 64)∨(-(2 ^ 64)<j/\j<2 ^ 64)
theorem Jy.ok{i j:Int}(h:Jy i j):IntMulOk i j:=by
 rcases h with⟨e,f⟩|⟨e,f⟩
 ·exact .of_left (intBits_le_64 e f)
 ·exact .of_right (intBits_le_64 e f)
theorem cD:nL X (j3 .Add) (Ez fun i j=>.int (i+j)):=My fun _ _ _ _ _ _ _ q=>add_int q
theorem jU:nL X (j3 .Sub) (Ez fun i j=>.int (i-j)):=My fun _ _ _ _ _ _ _ q=>sub_int q
theorem js:nL X (j3 .Mult) (rI Jy fun i j=>.int (i * j)):=Mz fun _ _ _ _ _ _ _ e q=>mul_int q e.ok
theorem EL:nL X (j3 .FloorDiv) (rI MU fun i j=>.int (i / j)):=Mz fun i j _ _ _ _ _ e q=>by
 have f:(0:Int)<j:=e.1;have g:j<1073741824:=e.2;exact floordiv_int (by omega) (by rw[Int.fdiv_eq_ediv_of_nonneg i (by omega)];exact q) (.inl (PyProof.noPylong_small (by omega)))
theorem gX:nL X (j3 .Mod) (rI (fun _ j=>0<j) fun i j=>.int (i % j)):=Mz fun i j _ _ _ _ _ e q=>by
 have f:(0:Int)<j:=e;exact mod_int' (by omega) (by rw[Int.fmod_eq_emod_of_nonneg i (by omega)];exact q)
theorem Io:nL X (j3 .Pow) (rI MT fun i j=>.int (i ^ j.toNat)):=Mz fun _ _ _ _ _ _ _ e q=>pow_int_small e.1 e.2.1 e.2.2 q
theorem unI{f:Value->Sem Value}{g:Int->Int}
  (rule:∀(i:Int) (t:Tok) (s:Shared) (Q:Zc) (E:Zc),Q (.int (g i) s.toks) { s with toks:=s.toks+1 }->wpAny (model X.prog X.w) X.A (f (.int i t)) Q E s) :
  UnR X f (rU fun i=>.int (g i)):=by
 intro j s σ H x v Q I e h;obtain⟨i,rfl,q⟩:=h;obtain⟨t,rfl⟩:=e;exact rule i t s _ _ ⟨.int (g i),H,I.tok _,⟨_,rfl⟩,q⟩
theorem u9:UnR X (unaryOp .USub) (rU fun i=>.int (-i)):=unI fun _ _ _ _ _ q=>neg_int q
end
def J9:V->V->Bool
 |.non,.non=>true | .non,.int _=>true | .int _,.non=>true | .non,.bl _=>true | .bl _,.non=>true | .non,.str _=>true | .str _,.non=>true
 |.int _,.int _=>true | .bl _,.bl _=>true | .str _,.str _=>true | .byt _,.byt _=>true
 |.int _,.str _=>true | .str _,.int _=>true | .bl _,.str _=>true | .str _,.bl _=>true
 |_,_=>false
def r9:R2:=fun x y H Q=>J9 x y=true/\Q (.bl (decide (x=y))) H
def Ms:R2:=fun x y H Q=>J9 x y=true/\Q (.bl (!decide (x=y))) H
theorem Ff{i j:Int}:decide (V.int i=V.int j)=(i==j):=by
 rw[Bc];simp
theorem Jd{i j:Bool}:decide (V.bl i=V.bl j)=(i==j):=by
 rw[Bc];simp
theorem dec_str{i j:Str}:decide (V.str i=V.str j)=(i==j):=by
 rw[Bc];simp
theorem Fg{i j:Array UInt8}:decide (V.byt i=V.byt j)=(i.toList==j.toList):=by
 rw[Bc];cases i;cases j;simp
section
variable{X:Cx}{a b c:Expr}{ta tb tc:TE}{pos:Pos}
theorem ck{f:Zd}{σ:St}{H:Hp}{s:Shared}{Q:VK}{k g:Bool}(I:Inv X f σ H s)(q:Q (.bl k) H)(e:k=g):EP X f σ Q (.bool g) s:=by
 subst e;exact⟨.bl k,H,I,rfl,q⟩
theorem eO:nL X (fO .Eq) r9:=by
 intro l s σ H x y v u Q I k e h;obtain⟨g,q⟩:=h;cases x with
 |non =>
  cases k;cases y with
  |non=>cases e;exact PySem.EqNone.eq_none_none (ck I q (by simp))
  |bl j=>cases e;exact PySem.EqNone.eq_none_bool (ck I q (by simp))
  |int j=>obtain⟨f,rfl⟩:=e;exact PySem.EqNone.eq_none_int (ck I q (by simp))
  |str j=>obtain⟨f,rfl⟩:=e;exact PySem.EqNone.eq_none_str (ck I q (by simp))
  |_=>exact absurd (show false=true from g) jc
 |bl i =>
  cases k;cases y with
  |non=>cases e;exact PySem.EqNone.eq_bool_none (ck I q (by simp))
  |bl j=>cases e;exact eq_bool (ck I q Jd)
  |str j=>obtain⟨f,rfl⟩:=e;exact PySem.EqMixed.eq_bool_str (ck I q (by simp))
  |_=>exact absurd (show false=true from g) jc
 |int i =>
  obtain⟨t,rfl⟩:=k;cases y with
  |non=>cases e;exact PySem.EqNone.eq_int_none (ck I q (by simp))
  |int j=>obtain⟨f,rfl⟩:=e;exact eq_int (ck I q Ff)
  |str j=>obtain⟨f,rfl⟩:=e;exact PySem.EqMixed.eq_int_str (ck I q (by simp))
  |_=>exact absurd (show false=true from g) jc
 |str i =>
  obtain⟨t,rfl⟩:=k;cases y with
  |non=>cases e;exact PySem.EqNone.eq_str_none (ck I q (by simp))
  |bl j=>cases e;exact PySem.EqMixed.eq_str_bool (ck I q (by simp))
  |int j=>obtain⟨f,rfl⟩:=e;exact PySem.EqMixed.eq_str_int (ck I q (by simp))
  |str j=>obtain⟨f,rfl⟩:=e;exact eq_str (ck I q dec_str)
  |_=>exact absurd (show false=true from g) jc
 |byt i =>
  obtain⟨t,rfl⟩:=k;cases y with
  |byt j=>obtain⟨f,rfl⟩:=e;exact PySem.W.eq_bytes (ck I q Fg)
  |_=>exact absurd (show false=true from g) jc
 |_=>cases y<;>exact absurd (show false=true from g) jc
theorem EK:nL X (fO .NotEq) Ms:=by
 intro l s σ H x y v u Q I k e h;obtain⟨g,q⟩:=h;cases x with
 |non =>
  cases k;cases y with
  |non=>cases e;exact PySem.EqNone.ne_none_none (ck I q (by simp))
  |bl j=>cases e;exact PySem.EqNone.ne_none_bool (ck I q (by simp))
  |int j=>obtain⟨f,rfl⟩:=e;exact PySem.EqNone.ne_none_int (ck I q (by simp))
  |str j=>obtain⟨f,rfl⟩:=e;exact PySem.EqNone.ne_none_str (ck I q (by simp))
  |_=>exact absurd (show false=true from g) jc
 |bl i =>
  cases k;cases y with
  |non=>cases e;exact PySem.EqNone.ne_bool_none (ck I q (by simp))
  |bl j=>cases e;exact ne_bool (ck I q (congrArg not Jd))
  |str j=>obtain⟨f,rfl⟩:=e;exact PySem.EqMixed.ne_bool_str (ck I q (by simp))
  |_=>exact absurd (show false=true from g) jc
 |int i =>
  obtain⟨t,rfl⟩:=k;cases y with
  |non=>cases e;exact PySem.EqNone.ne_int_none (ck I q (by simp))
  |int j=>obtain⟨f,rfl⟩:=e;exact ne_int (ck I q (congrArg not Ff))
  |str j=>obtain⟨f,rfl⟩:=e;exact PySem.EqMixed.ne_int_str (ck I q (by simp))
  |_=>exact absurd (show false=true from g) jc
 |str i =>
  obtain⟨t,rfl⟩:=k;cases y with
  |non=>cases e;exact PySem.EqNone.ne_str_none (ck I q (by simp))
  |bl j=>cases e;exact PySem.EqMixed.ne_str_bool (ck I q (by simp))
  |int j=>obtain⟨f,rfl⟩:=e;exact PySem.EqMixed.ne_str_int (ck I q (by simp))
  |str j=>obtain⟨f,rfl⟩:=e;exact ne_str (ck I q (congrArg not dec_str))
  |_=>exact absurd (show false=true from g) jc
 |byt i =>
  obtain⟨t,rfl⟩:=k;cases y with
  |byt j=>obtain⟨f,rfl⟩:=e;exact PySem.W.ne_bytes (ck I q (congrArg not Fg))
  |_=>exact absurd (show false=true from g) jc
 |_=>cases y<;>exact absurd (show false=true from g) jc
theorem BS:nL X (fO .Lt) (Ez fun i j=>.bl (decide (i<j))):=KA fun _ _ _ _ _ _ _ q=>lt_int q
theorem Mx:nL X (fO .LtE) (Ez fun i j=>.bl (decide (i<=j))):=KA fun _ _ _ _ _ _ _ q=>le_int q
theorem xG:nL X (fO .Gt) (Ez fun i j=>.bl (decide (j<i))):=KA fun _ _ _ _ _ _ _ q=>gt_int q
theorem Iq:nL X (fO .GtE) (Ez fun i j=>.bl (decide (j<=i))):=KA fun _ _ _ _ _ _ _ q=>ge_int q
theorem Gi:nL X (fO .In) (fun x y H Q=>∃i j,x=.str i/\y=.str j/\Q (.bl (!(cc.Str.occurrences j i 0 j.length 1).isEmpty)) H):=by
 intro g s σ H x y v u Q I e f h;obtain⟨i,j,rfl,rfl,q⟩:=h;obtain⟨t,rfl⟩:=e;obtain⟨k,rfl⟩:=f;exact in_str (ck I q rfl)
theorem Iz(b:Expr){e:CmpOp}(h:e≠.In:=by decide)(f:e≠.NotIn:=by decide):lF e b=false:=by
 have g:(e==CmpOp.In)=false:=by cases e<;>first|rfl|exact absurd rfl h
 have i:(e==CmpOp.NotIn)=false:=by cases e<;>first|rfl|exact absurd rfl f
 cases b<;>simp[lF,g,i]
theorem EI{e:CmpOp}{r:R2}(f:nL X (fO e) r)(g:PE X a ta)(i:PE X b tb)(j:lF e b=false):PE X (.Compare a [e] [b] pos) (az r ta tb):=by
 intro k s σ H Q I h;exact wpAny_Compare1 (Ma g i I h fun v u l x y m n o p q=>f k l σ m x y v u Q n o p q) j
def be(t:TE):TT:=fun σ H Q=>t σ H fun x H'=>∃k,x=.bl k/\Q k H'
theorem EC{f:CmpOp}{r:R2}(i:nL X (fO f) r)(j:PE X a ta)(l:PE X b tb)(m:lF f b=false):PT X (.Compare a [f] [b] pos) (be (az r ta tb)):=by
 intro g s σ H Q I h;refine wpAny_isTrue_Compare1 (cS (j g s σ H _ I h) fun v n ⟨x,o,p,q,t⟩=>cS (l g n σ o _ p t) fun u w ⟨y,A,B,C,D⟩ =>
  cS (i g w σ A x y v u _ B q C D) fun c M ⟨z,E,G,J,k,e,L⟩=>?_) m
 subst e;cases J;exact uO ⟨E,G,L⟩
theorem sj:(aj:Nat)<2 ^ 63:=by rw[xk];decide
theorem vH:nL X (j3 .Add) (fun x y H Q=>∃i j,x=.str i/\y=.str j/\i.length+j.length<=aj/\Q (.str (i++j)) H):=by
 intro l s σ H x y v u Q I e f h;obtain⟨i,j,rfl,rfl,g,q⟩:=h;obtain⟨t,rfl⟩:=e;obtain⟨k,rfl⟩:=f;exact add_str (fun k tk=>⟨.str (i++j),H,I.tok _,⟨_,rfl⟩,q⟩) g
theorem vals1{x:V}{e:Zf}(r:bg [x] e):∃u,e=[u]/\RelV x u:=by
 cases r with
 |cons f g=>cases g;exact⟨_,rfl,f⟩
theorem vals2{x y:V}{e:Zf}(r:bg [x,y] e):∃u f,e=[u,f]/\RelV x u/\RelV y f:=by
 cases r with
 |cons g h =>
  cases h with
  |cons i j=>cases j;exact⟨_,_,rfl,g,i⟩
theorem yb:g9 X (.type "int") (fun e H Q=>(∃i,e=[.int i]/\Q (.int i) H)∨∃k,e=[.bl k]/\Q (.int (if k then 1 else 0)) H):=by
 intro g s σ H e j Q I r h;rcases h with⟨i,rfl,q⟩|⟨k,rfl,q⟩
 ·obtain⟨u,rfl,t,rfl⟩:=vals1 r;exact call_int_int ⟨.int i,H,I,⟨_,rfl⟩,q⟩
 ·obtain⟨u,rfl,f⟩:=vals1 r;cases f;exact call_int_bool ⟨.int (if k then 1 else 0),H,I.tok _,⟨_,rfl⟩,q⟩
end
end L2
namespace L2
open PySem PySem.Spec PyProof.Rows
structure DX(h:Heap)(x dx C:Addr)(mA:Str->Option Value):Prop where
 obj:h.get? x=some (sX C dx)
 ns:h.Ns1 dx mA
 ne:dx≠x
theorem Gs{h:Heap}{g:Addr}{i:Str->Option Value}(n:h.Ns1 g i):∃j,h.get? g=some j/\∀name,Ej name j=some (i name):=by
 obtain⟨o,k,v,l,m,p,_,r⟩:=n;refine⟨o,l,fun name=>?_⟩;have e:=r name;unfold nsFind findBy at e;rw[<-Array.find?_toList]at e;unfold Ej;rw[m];dsimp only;split
 ·rename_i y q;rw[q]at e;exact congrArg some e
 ·rename_i q;rw[q]at e;have a:k.toList.any (·.refKey)=false:=by
   rw[List.any_eq_false];intro y s;obtain⟨z,t,f⟩:=p y (Array.mem_toList_iff.mp s);simp[mf.refKey,f]
  have u:¬k.toList.any (·.refKey)=true:=by rw[a];exact jc
  rw[if_neg u];exact congrArg some e
theorem DX.look{h:Heap}{x e C:Addr}{f:Str->Option Value}(I:DX h x e C f):∃a,PySem.W.InstAt h x (sX C e) C (some a)/\∀name,Ej name a=some (f name) :=
 let⟨a,g,i⟩:=Gs I.ns
 ⟨a,⟨I.obj,rfl,rfl,g⟩,i⟩
section
variable{prog:bZ}{w:World}{A:Around}{E:Zc}{s:Shared}{K:Za}{x dx C f:Addr}{mA:Str->Option Value}{name:Str}{v:Value}
theorem KG{a:Bool}{Q:Zc}(X:K.In s.heap)(I:DX s.heap x dx C mA)(g:uA K C name=true)(i:xj K C=true)
  (j:dX K (.ref C) name=some none) (k:mA name=some v) (e:PySem.W.handedIn v=true) (h:Q v { s with toks:=s.toks+1 }) :
  wpAny (model prog w) A (getAttr (.ref x) name a) Q E s:=by
 obtain⟨m,J,l⟩:=I.look;exact PySem.W.get_value X J (PySem.W.plainGet_of g).1 (PySem.W.findObj_own i j rfl (by rw[l,k])) e h
theorem IU{e:Sem Bool}{Q:Value×List Value->Shared->Prop}(X:K.In s.heap)(I:DX s.heap x dx C mA)(a:uA K C name=true)
  (g:dX K (.ref C) name=some (some (.ref f))) (i:Bb K (.ref f)=true) (j:mA name=none) (h:Q (.ref f,[.ref x]) s) :
  wpAny (model prog w) A (sT (.ref x) name e) Q E s:=by
 obtain⟨k,J,l⟩:=I.look;exact PySem.W.method_fn X J (PySem.W.plainGet_of a).1 (PySem.W.plainGet_of a).2 g (beq_iff_eq.mp i) (by show(Ej name k).map (·.isSome)=some false;rw[l,j];rfl) h
theorem JZ{n:Zb}{Q:Unit->Shared->Prop}(X:K.In s.heap)(I:DX s.heap x dx C mA)
  (o:dX K (.ref C) "__setattr__"=some (some (.builtin "object.__setattr__"))) (p:Ba K C=true) (q:PySem.W.takerIn K C name=some none) (t:xj K C=true)
  (u:PySem.Within mA n) (z:n.length<=aj)
  (h:∀i,DX i x dx C (fun y=>if y=name then some v else mA y)->iT dx s.heap i->Q () { s with heap:=i,toks:=s.toks+2 }) :
  wpAny (model prog w) A (setAttr (.ref x) name v) Q E s:=by
 obtain⟨L,J,M⟩:=I.look;refine PySem.W.set_plain X J o (PySem.W.osa_open (s:={ s with toks:=s.toks+1 }) (r:=none) X J p q fun b=>?_);obtain⟨N,B,j⟩:=PySem.W.any_some t;have D:s.heap.get? x=some ⟨.ref C,some dx,.plain,#[]⟩:=I.obj;refine am (aR (am (am (wpAny_loadPart D (am (PySem.W.Looks.here (s:={ s with toks:=s.toks+1 }) (PySem.W.looks_clsIn X B) ?_))))));rw[j];refine aR (a:=some dx) (am (aR (am ?_)));refine wpAny_nsSet1 (s:={ s with toks:=s.toks+1 }) I.ns fun i e g=>?_;obtain⟨O,G,H,k,l,m⟩:=e.count (PySem.Within.cons name v u);refine am (wpAny_lookBehind k (by rw[l];exact pastItsLine_dict (aD m (by rw[gC];omega))) ?_);exact aR (h _ ⟨(g.2 _ (b_ I.ne)).trans I.obj,e,I.ne⟩ g)
theorem IF{R:Result->Shared->Prop}{a:Zf}{e:List (Str×Value)}(X:K.In s.heap)(i:pR K C=true)
  (j:dX K (.ref C) "__init__"=some (some (.ref f))) (k:PySem.W.typeIn K (.ref f)=some (.type "function"))
  (h:zzl77 (model prog w) (A.under (.builtin "type.__call__" ⟨.ref C::a,e⟩)) (.call (.ref f) ⟨.ref (s.heap.objs.size+1)::a,e⟩) (PySem.W.InitBack (s.heap.objs.size+1) R)
   { s with heap:=(s.heap.push pQ).push (sX C s.heap.objs.size) }) :
  zzl77 (model prog w) A (.call (.ref C) ⟨a,e⟩) R s:=by
 obtain⟨l,g,d,t,os⟩:=s;exact PySem.W.make_core (PySem.W.makes_of X i) (PySem.W.looks_findIn X j) (fun self=>PySem.W.bind_fn X self k) (.inl rfl) h
end
def dA(f:Str)(v:V):List (Str×V)->List (Str×V)
 |[]=>[(f,v)]
 | (g,x)::r=>if g=f then(g,v)::r else(g,x)::dA f v r
theorem bP(f g:Str)(v:V):∀fs:List (Str×V),(dA f v fs).lookup g=if g=f then some v else fs.lookup g
 |[]=>by
  show ia g [(f,v)]=_;by_cases h:g=f
  ·have a:(g==f)=true:=beq_iff_eq.mpr h;simp only[ia,a,if_pos h]
  ·have a:(g==f)=false:=beq_eq_false_iff_ne.mpr h;simp only[ia,a,if_neg h]
 | (k,x)::r=>by
  have j:=bP f g v r;rw[show dA f v ((k,x)::r)=(if k=f then(k,v)::r else(k,x)::dA f v r)from rfl]
  by_cases i:k=f
  ·rw[if_pos i];by_cases h:g=k
   ·have a:(g==k)=true:=beq_iff_eq.mpr h;simp only[ia,a,if_pos (h.trans i)]
   ·have a:(g==k)=false:=beq_eq_false_iff_ne.mpr h;simp only[ia,a,if_neg (fun e:g=f=>h (e.trans i.symm))]
  ·rw[if_neg i];by_cases h:g=k
   ·have a:(g==k)=true:=beq_iff_eq.mpr h;simp only[ia,a,if_neg (fun e:g=f=>i (h.symm.trans e))]
   ·have a:(g==k)=false:=beq_eq_false_iff_ne.mpr h;simp only[ia,a];exact j
theorem so(f:Str)(v:V):∀fs:List (Str×V),f∈(dA f v fs).map (·.1)/\∀g,g∈fs.map (·.1)->g∈(dA f v fs).map (·.1)
 |[]=>⟨by simp[dA],fun g h=>by simp at h⟩
 | (k,x)::r=>by
  obtain⟨i,j⟩:=so f v r;rw[show dA f v ((k,x)::r)=(if k=f then(k,v)::r else(k,x)::dA f v r)from rfl]
  by_cases a:k=f
  ·rw[if_pos a];subst a;exact⟨by simp,fun g h=>by simpa using h⟩
  ·rw[if_neg a];refine⟨?_,fun g h=>?_⟩
   ·rw[bF];exact dY _ i
   ·rw[bF]at h ⊢;rcases cn.mp h with e|e
    ·exact cn.mpr (.inl e)
    ·exact dY _ (j g e)
theorem tm(f:Str)(v:V):∀fs:List (Str×V),(dA f v fs).length<=fs.length+1
 |[]=>by simp[dA]
 | (k,x)::r=>by
  have e:=tm f v r;rw[show dA f v ((k,x)::r)=(if k=f then(k,v)::r else(k,x)::dA f v r)from rfl]
  by_cases a:k=f
  ·rw[if_pos a,gC,gC];omega
  ·rw[if_neg a,gC,gC];omega
theorem lP.some_of{v:V}{o:Option Value}(r:lP (some v) o):∃u,o=some u/\RelV v u:=by
 cases o with
 |none=>exact(show False from r).elim
 |some u=>exact⟨u,rfl,r⟩
theorem lP.none_of{o:Option Value}(r:lP none o):o=none:=by
 cases o with
 |none=>rfl
 |some u=>exact(show False from r).elim
theorem GD{v:V}{u:Value}(r:RelV v u):PySem.W.handedIn u=true:=by
 cases v with
 |non=>cases(show u=Value.none from r);rfl
 |bl b=>cases(show u=Value.bool b from r);rfl
 |int i=>obtain⟨t,e⟩:=(show ∃t,u=Value.int i t from r);cases e;rfl
 |str x=>obtain⟨t,e⟩:=(show ∃t,u=Value.str x t from r);cases e;rfl
 |byt b=>obtain⟨t,e⟩:=(show ∃t,u=Value.bytes b t from r);cases e;rfl
 |flt b=>obtain⟨t,e⟩:=(show ∃t,u=Value.float b t from r);cases e;rfl
 |ref a=>cases(show u=Value.ref a from r);rfl
 |ty n=>cases(show u=Value.type n from r);rfl
section
variable{P:bZ}{w:World}{H H':Hp}{h h':Heap}{a C dx:Addr}{fs fs':List (Str×V)}
theorem As{K:Za}(i:nN P w K H h)(e:H a=some (.ins C dx fs)):∃g,DX h a dx C g/\(∀f,lP (fs.lookup f) (g f))/\PySem.Within g (fs.map (·.1))/\fs.length<=1000/\H dx=some (.own a):=by
 obtain⟨d,z,ne,j,g,n,r,q⟩:=(show cZ P w K H h a (.ins C dx fs)from i a _ e);exact⟨g,⟨j,n,ne⟩,r,q,z,d⟩
end
structure Fu(K:Za)(C:Addr):Prop where
 pg:uA K C Ei=true
 hd:xj K C=true
 po:Ba K C=true
 sa:dX K (.ref C) "__setattr__"=some (some (.builtin "object.__setattr__"))
theorem Fu.get{K:Za}{C:Addr}(c:Fu K C)(f:Str):uA K C f=true:=c.pg
def eK(K:Za)(C:Addr)(f:Str):Prop:=dX K (.ref C) f=some none
theorem eK.taker{K:Za}{C:Addr}{f:Str}(n:eK K C f):PySem.W.takerIn K C f=some none:=by
 unfold PySem.W.takerIn;rw[show dX K (.ref C) f=some none from n]
 rfl
structure K2(K:Za)(C:Addr)(m:Str)(f:Addr):Prop where
 at_:dX K (.ref C) m=some (some (.ref f))
 fn:Bb K (.ref f)=true
 kp:iC K (.ref f)=true
section
variable{X:Cx}{J5:Zd}{σ:St}{H:Hp}{s:Shared}{a C dx:Addr}{fs:List (Str×V)}{f:Str}{v:V}{A:Around}{E:Zc}
theorem DH{b:Bool}{Q:Zc}(I:Inv X J5 σ H s)(e:H a=some (.ins C dx fs))(c:Fu X.K C)(n:eK X.K C f)(l:fs.lookup f=some v)
  (h:∀u g,Inv X J5 σ H g->RelV v u->Q u g):wpAny (model X.prog X.w) A (getAttr (.ref a) f b) Q E s:=by
 obtain⟨j,O,r,_,_,_⟩:=As I.hok e;obtain⟨u,k,i⟩:=lP.some_of (v:=v) (o:=j f) (by rw[<-l];exact r f);exact KG I.kIn O (c.get f) c.hd n k (GD i) (h u _ (I.tok _) i)
theorem vU{m:Str}{g:Addr}{i:Sem Bool}{Q:Value×List Value->Shared->Prop}(I:Inv X J5 σ H s)(e:H a=some (.ins C dx fs))(c:Fu X.K C)(k:K2 X.K C m g)(l:fs.lookup m=none)
  (h:Q (.ref g,[.ref a]) s):wpAny (model X.prog X.w) A (sT (.ref a) m i) Q E s:=by
 obtain⟨j,O,r,_,_,_⟩:=As I.hok e;have n:j m=none:=lP.none_of (by rw[<-l];exact r m);exact IU I.kIn O (c.get m) k.at_ k.fn n h
theorem Dh{y:V}{u:Value}{Q:Unit->Shared->Prop}(I:Inv X J5 σ H s)(e:H a=some (.ins C dx fs))(c:Fu X.K C)(n:eK X.K C f)(N:fs.length<1000)(p:RelV y u)
  (h:∀j,Inv X J5 σ (upd H a (.ins C dx (dA f y fs))) j->Q () j):wpAny (model X.prog X.w) A (setAttr (.ref a) f u) Q E s:=by
 obtain⟨k,O,r,l,_,m⟩:=As I.hok e;have t:(fs.map (·.1)).length<=aj:=by rw[ah,xk];omega
 refine JZ I.kIn O c.sa c.po n.taker c.hd l t fun B i D=>h _ ?_;have G:∃o,B.get? dx=some o:=let⟨o,_,_,J,_⟩:=i.ns;⟨o,J⟩;refine I.write (x:=a) (e:=dx) (by rw[e];exact sS) (.inr m) (fun b q L z=>(D.2 b L).trans z) G ?_;refine⟨by rw[ai O.ne];exact m,?_,O.ne,i.obj,_,i.ns,fun g=>?_,fun g M=>?_⟩
 ·have:=tm f y fs;omega
 ·show lP ((dA f y fs).lookup g) (if g=f then some u else k g)
  rw[bP];by_cases q:g=f
  ·rw[if_pos q,if_pos q];exact p
  ·rw[if_neg q,if_neg q];exact r g
 ·by_cases q:g=f
  ·rw[q];exact(so f y fs).1
  ·refine(so f y fs).2 g (l g fun z=>M ?_);show(if g=f then some u else k g)=none
   rw[if_neg q];exact z
theorem Inv.made(I:Inv X J5 σ H s):Inv X J5 σ (upd (upd H s.heap.objs.size (.own (s.heap.objs.size+1))) (s.heap.objs.size+1) (.ins C s.heap.objs.size []))
  { s with heap:=(s.heap.push pQ).push (sX C s.heap.objs.size) }:=by
 have g:(s.heap.push pQ).get? s.heap.objs.size=some pQ:=dh s.heap rfl;have h:((s.heap.push pQ).push (sX C s.heap.objs.size)).get? (s.heap.objs.size+1)=some (sX C s.heap.objs.size):=by
  have:=dh (s.heap.push pQ) (o:=sX C s.heap.objs.size) rfl;rwa[oq]at this
 have i:(s.heap.push pQ).Ns s.heap.objs.size (fun _=>none):=⟨pQ,#[],_,g,rfl,(fun e j=>absurd j (by simp)),fun _=>rfl⟩;have k:=I.laid (a:=s.heap.objs.size) (o:=.own (s.heap.objs.size+1)) (h':=s.heap.push pQ) (t':=s.toks) (fun b u q=>a_ _ q) (aB _) ⟨_,g⟩;refine k.laid (a:=s.heap.objs.size+1) (o:=.ins C s.heap.objs.size []) (t':=s.toks) (fun b u q=>a_ _ q) (Nat.le_of_eq (oq _ _)) ?_;have ne:s.heap.objs.size≠s.heap.objs.size+1:=cX (Eh _);refine⟨by rw[ai ne,aa],cL _,ne,h,fun _=>none,(Heap.Ns1.of_empty i).at fun o q=>a_ _ q,fun _=>sS,fun y l=>absurd rfl l⟩
theorem KS{g:bZ}{w:World}{i:Env}{e:Expr}{f:Str}{k:Pos}{s:Shared}{Q:Zc}(l:xi e f i (eval e i)=eval e i)
  (h:wpAny (model g w) A (eval e i) (fun o j=>wpAny (model g w) A (getAttr o f true) Q E j) E s):wpAny (model g w) A (eval (.Attribute e f k) i) Q E s :=
 Attribute_any_ h (by rw[arm_eval_Attribute,l])
end
def jh(K:Za)(ta:TE)(f:Str):TE:=fun σ H Q=>ta σ H fun x H1=>∃a C dx fs v,x=.ref a/\H1 a=some (.ins C dx fs)/\Fu K C/\eK K C f/\fs.lookup f=some v/\Q v H1
def qw(K:Za)(ta tv:TE)(f:Str):TS:=fun D σ H=>tv σ H fun y H1=>ta σ H1 fun x H2=>∃a C dx fs,x=.ref a/\H2 a=some (.ins C dx fs)/\Fu K C/\eK K C f/\fs.length<1000 /\
 D.nx σ (upd H2 a (.ins C dx (dA f y fs)))
section
variable{X:Cx}{o e value:Expr}{f:Str}{pos pos' J8:Pos}{ta tv:TE}
theorem eI(i:PE X e ta)(j:xi e f X.env (eval e X.env)=eval e X.env):PE X (.Attribute e f pos) (jh X.K ta f):=by
 intro k s σ H Q I h;refine KS j (cS (i k s σ H _ I h) fun u z g=>?_);obtain⟨x,m,p,r,a,C,A,fs,v,ex,t,c,n,l,q⟩:=g;subst ex;obtain rfl:u=Value.ref a:=r;exact DH p t c n l fun B D w y=>⟨v,m,w,y,q⟩
theorem ig(j:PE X o ta)(k:PE X value tv)(m:sV value (some (.Attribute o f pos')) pos.line X.env=pure false):PS X (.Assign [.Attribute o f pos'] value pos) (qw X.K ta tv f):=by
 intro i s σ H D I h;refine plainObj_wpAny_Assign_Attribute (cS (k i s σ H _ I h) fun u p ⟨y,r,t,v,q⟩=>cS (j i p σ r _ t q) fun w J g=>?_) m;obtain⟨x,L,z,A,a,C,M,fs,ex,B,c,n,l,E⟩:=g;subst ex;obtain rfl:w=Value.ref a:=A;exact Dh z B c n l v fun N G=>⟨σ,_,G,E⟩
end
end L2
namespace L2
open PySem PySem.Spec PyProof.Rows
structure fM(k:Nat)(A:Around):Prop where
 hd:A.handled=none
 dp:A.depth+3 * k+5<recursionLimit
 un:A.units+16 * k+200<cLine
theorem fM.mono{j k:Nat}{A:Around}(r:fM k A)(h:j<=k):fM j A:=⟨r.hd,by have:=r.dp;omega,by have:=r.un;omega⟩
theorem fM.deeper{k:Nat}{A:Around}(r:fM (k+1) A)(a:Env):fM k (A.deeper a) :=
 ⟨r.hd,by have:=r.dp;show A.depth+1+3 * k+5<_;omega,by have:=r.un;show A.units+3+16 * k+200<_;omega⟩
theorem DA{A:Around}{C:Addr}{a:Zf}{e:List (Str×Value)}:(A.under (.builtin "type.__call__" ⟨.ref C::a,e⟩)).depth=A.depth+1:=by
 first|rfl|simp[Around.under,Code.weight,Code.isCreation,Code.isGuard,Code.isCaller,Code.frames,Code.isFrame,guardIds]
theorem Dz{A:Around}{C:Addr}{a:Zf}{e:List (Str×Value)}:(A.under (.builtin "type.__call__" ⟨.ref C::a,e⟩)).units=A.units+1:=by
 first|rfl|simp[Around.under,Code.cUnits,Code.frames,Code.isFrame]
theorem fM.make{k:Nat}{A:Around}(r:fM (k+1) A)(C:Addr)(a:Zf)(e:List (Str×Value)):fM k (A.under (.builtin "type.__call__" ⟨.ref C::a,e⟩)) :=
 ⟨r.hd,by have:=r.dp;rw[DA];omega,by have:=r.un;rw[Dz];omega⟩
theorem fM.depth{k:Nat}{A:Around}(r:fM k A):A.depth<recursionLimit:=by have:=r.dp;omega
theorem fM.units{k:Nat}{A:Around}(r:fM k A):A.units+64<cLine:=by have:=r.un;omega
def bp:TA:=fun _ H Q=>Q [] H
def ak(ta:TE)(tr:TA):TA:=fun σ H Q=>ta σ H fun x H1=>tr σ H1 fun xs H2=>Q (x::xs) H2
abbrev aw(a:TE):TA:=ak a bp
abbrev aT(a b:TE):TA:=ak a (ak b bp)
abbrev c9(a b c:TE):TA:=ak a (ak b (ak c bp))
section
variable{X:Cx}{e:Expr}{es:List Expr}{te:TE}{t:TA}{pos:Pos}
theorem da:PA X [] bp:=fun _ _ _ _ H Q I h=>Eg ⟨[],H,I,.nil,h⟩
theorem aX(g:PE X e te)(i:PA X es t)(j:aK (e::es) X.env=(false,eval e X.env)::aK es X.env:=by rfl):PA X (e::es) (ak te t):=by
 intro pos f s σ H Q I h;rw[j];show wpAny _ _ (spliced ((false,eval e X.env)::backTo pos (aK es X.env))) _ _ s;refine A_ (cS (g f s σ H _ I h) fun u k a=>?_);obtain⟨x,l,m,n,o⟩:=a;exact cS (i pos f k σ l _ m o) fun y z ⟨p,q,r,v,w⟩=>⟨x::p,q,r,.cons n v,w⟩
def bj(t:TA):TE:=fun σ H Q=>t σ H fun xs H1=>xs.length<=aj/\∀p,H1 p=none->Q (.ref p) (upd H1 p (.tup xs))
def cT(t:TA):TE:=fun σ H Q=>t σ H fun xs H1=>xs.length<=aj/\∀p,H1 p=none->Q (.ref p) (upd H1 p (.lst xs))
theorem aG{i}(h:PA X es t):PE X (.Tuple es i pos) (bj t):=by
 intro j s σ H Q I k;refine wpAny_Tuple_spliced (cS (h pos j s σ H _ I k) fun l a ⟨m,f,g,r,z,q⟩=>⟨by rw[<-r.length];exact z,?_⟩);have n:f a.heap.objs.size=none:=g.hok.fresh (aB _);refine⟨.ref a.heap.objs.size,upd f a.heap.objs.size (.tup m),g.laid (t':=a.toks) (fun b u e=>a_ _ e) (aB _) ?_,rfl,q _ n⟩;exact⟨z,l,r,⟨_,dh _ rfl,rfl,_,rfl⟩⟩
theorem bm(h:PA X es t):PE X (.List es pos) (cT t):=by
 intro i s σ H Q I j;refine wpAny_List_spliced (cS (h pos i s σ H _ I j) fun k a ⟨l,f,g,r,z,q⟩=>⟨by rw[<-r.length];exact z,?_⟩);have m:f a.heap.objs.size=none:=g.hok.fresh (aB _);refine⟨.ref a.heap.objs.size,upd f a.heap.objs.size (.lst l),g.laid (t':=a.toks) (fun b u e=>a_ _ e) (aB _) ?_,rfl,q _ m⟩;exact⟨z,k,0,r,dh _ rfl⟩
end
abbrev Sp:=List V->Hp->VK->XK->Prop
abbrev Hk:=List Env->Hp->Shared->XK->Value->Shared->Prop
structure Eb(P:bZ)(w:World)(K:Za)(mg:Str->Option Value)(base:Heap)(A:Around)(outer:List Env)(s:Shared)(H:Hp):Prop where
 frames:A.frames=some outer
 mod:Mod K mg base
 bs:∀b o,base.get? b=some o->s.heap.get? b=some o/\H b=none
 bsz:base.objs.size<=s.heap.objs.size
 funs:s.heap.FunFrames base outer
 frf:∀b∈Hg outer,H b=none
 hok:nN P w K H s.heap
 bare:pS s.gens
def CE(outer:List Env)(P:bZ)(w:World)(K:Za)(H:Hp)(s:Shared)(Q:VK)(u:Value)(s':Shared):Prop :=
 ∃v H',s'.os=s.os/\pS s'.gens/\Un (Hg outer) [] H H' s.heap s'.heap/\nN P w K H' s'.heap/\RelV v u/\Q v H'
def CR(CX:Hk)(outer:List Env)(P:bZ)(w:World)(K:Za)(H:Hp)(s:Shared)(Q:VK)(E:XK)(r:Result)(s':Shared):Prop :=
 match r with
 |.ok (.ret u)=>CE outer P w K H s Q u s'
 |.ok _=>False
 |.error e=>CX outer H s E e s'
structure mU(P:bZ)(w:World)(K:Za)(mg:Str->Option Value)(base:Heap)(CX:Hk)(k:Nat)(f:Addr)(fd:lE)(ps:Zb)(sp:Sp):Prop where
 len:∀vs H Q E,sp vs H Q E->vs.length=ps.length
 run:∀(A:Around) (outer:List Env) (s:Shared) (H:Hp) (args:Args) (us:Zf) (vs:List V) (Q:VK) (E:XK),fM k A->Eb P w K mg base A outer s H->uz s fd args (ps.zip us)->bg vs us->sp vs H Q E ->
  zzl77 (model P w) A (.call (.ref f) args) (CR CX outer P w K H s Q E) s
theorem Eb.make{P:bZ}{w:World}{K:Za}{a:Str->Option Value}{base:Heap}{A:Around}{outer:List Env}{s:Shared}{H:Hp}(e:Eb P w K a base A outer s H)(C:Addr)(f:Zf)(g:List (Str×Value)):
  Eb P w K a base (A.under (.builtin "type.__call__" ⟨.ref C::f,g⟩)) outer s H:=⟨by first|exact e.frames|(simpa[Around.under,Code.envs,Code.isFrame,pushEnvs]using e.frames),e.mod,e.bs,e.bsz,e.funs,e.frf,e.hok,e.bare⟩
section
variable{X:Cx}{J5:Zd}{σ:St}{H:Hp}{s s':Shared}
theorem Inv.env0(I:Inv X J5 σ H s):Eb X.prog X.w X.K X.mg X.base X.A X.stack s H :=
 ⟨I.ok.frames,I.ok.mod,I.bs,aD I.ok.bsz I.sz,I.stack,I.stkFree,I.hok,I.bare⟩
theorem Inv.after{Q:VK}{u:Value}(I:Inv X J5 σ H s)(h:CE X.stack X.prog X.w X.K H s Q u s'):EP X J5 σ Q u s':=by
 obtain⟨v,i,os,a,un,e,r,q⟩:=h;obtain⟨j,g,d,t,f⟩:=s';obtain rfl:f=s.os:=os;exact⟨v,i,I.call (h':=j) (g':=g) (d':=d) (t':=t) (ch:=[]) un e a (fun b z=>absurd z (by simp)),r,q⟩
end
def K8(sp:Sp)(dvs:List V)(E:XK)(t:TA):TE:=fun σ H Q=>t σ H fun vs H1=>sp (vs++dvs) H1 Q E
def cz(C:Addr)(m:Str)(sp:Sp)(dvs:List V)(E:XK)(ta:TE)(t:TA):TE:=fun σ H Q=>ta σ H fun x H1=>∃a dx fs,x=.ref a/\H1 a=some (.ins C dx fs)/\fs.lookup m=none /\
 t σ H1 fun vs H2=>sp (x::(vs++dvs)) H2 Q E
def xx(C:Addr)(sp:Sp)(dvs:List V)(E:XK)(t:TA):TE:=fun σ H Q=>t σ H fun vs H1=>∀x dx,H1 x=none->H1 dx=none->dx≠x ->
 sp (.ref x::(vs++dvs)) (upd (upd H1 dx (.own x)) x (.ins C dx [])) (fun v H2=>v=.non/\Q (.ref x) H2) E
def Binds(K:Za)(fd:lE)(ps:Zb)(ds:Zf):Prop :=
 ∀(s:Shared) (us:Zf),K.In s.heap->(us++ds).length=ps.length->uz s fd ⟨us,[]⟩ (ps.zip (us++ds))
theorem Binds.all{K:Za}{f:lE}{e:Zb}(h:∀a:List Value,a.length=e.length->bindArgs f ⟨a,[]⟩=pure (e.zip a)):Binds K f e []:=fun s a _ g=>by
 rw[eZ]at g ⊢;exact .of_eq (h a g)
def pD(CX:Hk)(X:Cx)(E:XK):Prop:=∀(J5:Zd) (σ:St) (H:Hp) (s:Shared) (e:Value) (s':Shared),Inv X J5 σ H s->CX X.stack H s E e s'->X.xe e s'
section
variable{X:Cx}{CX:Hk}{k:Nat}{f C:Addr}{fd:lE}{ps:Zb}{sp:Sp}{dvs:List V}{ds:Zf}{E:XK}{x m:Str}{p pos J7:Pos}{e o:Expr}{es:List Expr}{ta:TE}{t:TA}
theorem Di{g:Zd}{σ:St}{H:Hp}{s:Shared}{Q:VK}{us:Zf}{vs:List V}(F:mU X.prog X.w X.K X.mg X.base CX k f fd ps sp)(j:fM k X.A)(l:Binds X.K fd ps ds)(n:bg dvs ds)(q:pD CX X E)
  (I:Inv X g σ H s) (r:bg vs us) (h:sp (vs++dvs) H Q E):wpAny (model X.prog X.w) X.A (call (.ref f) us) (EP X g σ Q) X.xe s:=by
 have i:bg (vs++dvs) (us++ds):=r.append n;have v:(us++ds).length=ps.length:=by rw[<-i.length];exact F.len _ _ _ _ h
 refine wpAny_call (Ef (F.run X.A X.stack s H ⟨us,[]⟩ (us++ds) (vs++dvs) Q E j I.env0 (l s us I.kIn v) i h) fun r y a=>?_);cases r with
 |error e=>exact q g σ H s e y I a
 |ok z =>
  cases z with
  |ret u=>exact I.after a
  |next=>exact j4 a
  |brk=>exact j4 a
  |cont=>exact j4 a
theorem Kw(F:mU X.prog X.w X.K X.mg X.base CX k f fd ps sp)(j:fM k X.A)(l:Gl X x)(n:X.mg x=some (.ref f))(u:iC X.K (.ref f)=true)(v:Binds X.K fd ps ds)(y:bg dvs ds)(z:pD CX X E)
  (B:PA X (e::es) t) (a:(x==("__debug__":Str))=false:=by decide) (D:aK (e::es) X.env=(false,eval e X.env)::aK es X.env:=by rfl) (g:(backTo pos (aK es X.env)).any (·.1)=false:=by rfl) :
  PE X (.Call (.Name x p) (e::es) [] pos) (K8 sp dvs E t):=by
 intro G s σ H Q I h;refine Ee (Aj I l n ?_ a);refine PySem.W.callWith_K (h₀:=X.base) I.ok.mod.kin u (cS (B pos G s σ H _ I h) fun J L ⟨M,N,i,r,q⟩=>⟨i.kIn,?_⟩) D g;exact Di F j v y z i r q
theorem Ks{pl:Sem Bool}(D:PE X o ta)(c:Fu X.K C)(n:K2 X.K C m f)(F:mU X.prog X.w X.K X.mg X.base CX k f fd ps sp)(G:fM k X.A)(J:Binds X.K fd ps ds)(L:bg dvs ds)(M:pD CX X E)(N:PA X (e::es) t)
  (g:aK (e::es) X.env=(false,eval e X.env)::aK es X.env:=by rfl) (i:(backTo pos (aK es X.env)).any (·.1)=false:=by rfl)
  (O:eval (.Call (.Attribute o m J7) (e::es) [] pos) X.env=(do
   let v <- eval o X.env
   sW J7.atName
   let(f,first) <- lU [v] (sT v m pl)
   xh pos f first (backTo pos (aK (e::es) X.env)) (pP pos (pO [] X.env))):=by rfl) :
  PE X (.Call (.Attribute o m J7) (e::es) [] pos) (cz C m sp dvs E ta t):=by
 intro y s σ H Q I h;refine PySem.W.methodCall_KW (pl:=pl) (cS (D y s σ H _ I h) fun u T j=>?_) O;obtain⟨x,U,z,Y,a,dx,fs,ex,ea,l,q⟩:=j;subst ex;obtain rfl:u=Value.ref a:=Y;refine vU z ea c n l ?_;refine PySem.W.callWith_K (first:=[.ref a]) (h₀:=X.base) I.ok.mod.kin n.kp (cS (N pos y T σ U _ z q) fun us s2 ⟨vs,H2,B,r,q2⟩=>⟨B.kIn,?_⟩) g i
 exact Di (us:=.ref a::us) (vs:=.ref a::vs) F G J L M B (.cons rfl r) q2
theorem Il{pl:Sem Bool}(r:PE X o ta)(c:Fu X.K C)(j:K2 X.K C m f)(F:mU X.prog X.w X.K X.mg X.base CX k f fd ps sp)(v:fM k X.A)(y:Binds X.K fd ps ds)(z:bg dvs ds)(B:pD CX X E)
  (D:eval (.Call (.Attribute o m J7) [] [] pos) X.env=(do
   let n <- eval o X.env
   sW J7.atName
   let(f,first) <- lU [n] (sT n m pl)
   xh pos f first (backTo pos (aK [] X.env)) (pP pos (pO [] X.env))):=by rfl) :
  PE X (.Call (.Attribute o m J7) [] [] pos) (cz C m sp dvs E ta bp):=by
 intro G s σ H Q I h;refine PySem.W.methodCall_KW (pl:=pl) (cS (r G s σ H _ I h) fun u M g=>?_) D;obtain⟨x,N,i,J,a,O,fs,ex,L,l,q⟩:=g;subst ex;obtain rfl:u=Value.ref a:=J;refine vU i L c j l ?_;exact PySem.W.callWith_K0 (first:=[.ref a]) i.kIn j.kp (Di (us:=[.ref a]) (vs:=[.ref a]) F v y z B i (.cons rfl .nil) q)
structure Mk(K:Za)(C f:Addr):Prop where
 makes:pR K C=true
 init:dX K (.ref C) "__init__"=some (some (.ref f))
 fn:Bb K (.ref f)=true
 kp:iC K (.ref C)=true
theorem HC{l:Zd}{σ:St}{H:Hp}{s:Shared}{Q:VK}{g:Zf}{n:List V}(M:Mk X.K C f)(F:mU X.prog X.w X.K X.mg X.base CX k f fd ps sp)(z:fM (k+1) X.A)(B:Binds X.K fd ps ds)(D:bg dvs ds)
  (G:pD CX X E) (I:Inv X l σ H s) (r:bg n g)
  (h:∀x i,H x=none->H i=none->i≠x->sp (.ref x::(n++dvs)) (upd (upd H i (.own x)) x (.ins C i [])) (fun v J=>v=.non/\Q (.ref x) J) E) :
  wpAny (model X.prog X.w) X.A (call (.ref C) g) (EP X l σ Q) X.xe s:=by
 have q:=h (s.heap.objs.size+1) s.heap.objs.size (I.hok.fresh (Ed _)) (I.hok.fresh (aB _)) (cX (Eh _));have j:=Inv.made (C:=C) I;have y:bg (V.ref (s.heap.objs.size+1)::(n++dvs)) (Value.ref (s.heap.objs.size+1)::(g++ds)):=.cons rfl (r.append D);have L:(Value.ref (s.heap.objs.size+1)::g++ds).length=ps.length:=by
  have e:=y.length;rw[F.len _ _ _ _ q]at e;exact e.symm
 refine wpAny_call (IF (f:=f) I.kIn M.makes M.init (beq_iff_eq.mp M.fn) (Ef (F.run _ X.stack _ _ ⟨Value.ref (s.heap.objs.size+1)::g,[]⟩ (Value.ref (s.heap.objs.size+1)::(g++ds)) _ _ E (z.make C g [])
  (j.env0.make C g []) (B _ (Value.ref (s.heap.objs.size+1)::g) j.kIn L) y q) fun r N a=>?_))
 cases r with
 |error e=>exact G l σ _ _ e N j a
 |ok O =>
  cases O with
  |ret u =>
   obtain⟨v,T,U,Y,ev,q3⟩:=j.after a;subst ev;exact⟨Y,⟨V.ref (s.heap.objs.size+1),T,U,rfl,q3⟩⟩
  |next=>exact j4 a
  |brk=>exact j4 a
  |cont=>exact j4 a
theorem Kt(M:Mk X.K C f)(F:mU X.prog X.w X.K X.mg X.base CX k f fd ps sp)(j:fM (k+1) X.A)(l:Gl X x)(n:X.mg x=some (.ref C))(u:Binds X.K fd ps ds)(v:bg dvs ds)(y:pD CX X E)
  (z:PA X (e::es) t) (a:(x==("__debug__":Str))=false:=by decide) (B:aK (e::es) X.env=(false,eval e X.env)::aK es X.env:=by rfl) (g:(backTo pos (aK es X.env)).any (·.1)=false:=by rfl) :
  PE X (.Call (.Name x p) (e::es) [] pos) (xx C sp dvs E t):=by
 intro D s σ H Q I h;refine Ee (Aj I l n ?_ a);refine PySem.W.callWith_K (h₀:=X.base) I.ok.mod.kin M.kp (cS (z pos D s σ H _ I h) fun G J ⟨L,N,i,r,q⟩=>⟨i.kIn,?_⟩) B g;exact HC M F j u v y i r q
end
structure lh(N P:Zb)(sc:Scope):Prop where
 kind:sc.kind=.function
 co:sc.isCoroutine=false
 gen:sc.isGenerator=false
 nd:N.Nodup
 pre:N.take P.length=P
 par:∀x∈P,sc.names.lookup x=some .local∨sc.names.lookup x=some .cell
 nofree:∀y∈sc.names,y.2≠.free
theorem yf{kindOf:Str->Option jZ}{x:Str}:∀{binds:List (Str×Value)}{m:Str->Option Value},(∀v,(x,v)∉binds)->bindL kindOf binds m x=m x
 |[],_,_=>rfl
 | (n,v)::r,m,h=>by
  unfold bindL;rw[yf fun w a=>h w (dY _ a)];split
  ·have:x≠n:=by rintro rfl;exact h v dQ
   simp[this]
  ·rfl
theorem yh{kindOf:Str->Option jZ}{x:Str}:∀{binds:List (Str×Value)}{m:Str->Option Value},(∀v,(x,v)∉binds)->bindC kindOf binds m x=m x
 |[],_,_=>rfl
 | (n,v)::r,m,h=>by
  unfold bindC;rw[yh fun w a=>h w (dY _ a)];split
  ·rfl
  ·have:x≠n:=by rintro rfl;exact h v dQ
   simp[this]
theorem yg{kindOf:Str->Option jZ}{x:Str}{v:Value}:∀{P:Zb}{a:Zf}{i:Nat}{m:Str->Option Value},P.Nodup->P[i]?=some x->a[i]?=some v->kindOf x=some .local ->
  bindL kindOf (P.zip a) m x=some v
 |[],_,_,_,_,h,_,_=>by simp at h
 |_::_,[],_,_,_,_,h,_=>by simp at h
 |p::P,w::a,0,m,g,e,f,j=>by
  simp at e f;subst e;subst f;show bindL kindOf ((p,w)::P.zip a) m p=_;unfold bindL;rw[yf fun v k=>(h_.mp g).1 (y3 k).1,if_pos j];simp
 |p::P,w::a,i+1,m,g,e,f,j=>by
  show bindL kindOf ((p,w)::P.zip a) m x=_;unfold bindL;exact yg (i:=i) (h_.mp g).2 (by simpa using e) (by simpa using f) j
theorem yi{kindOf:Str->Option jZ}{x:Str}{v:Value}:∀{P:Zb}{a:Zf}{i:Nat}{m:Str->Option Value},P.Nodup->P[i]?=some x->a[i]?=some v->kindOf x≠some .local ->
  bindC kindOf (P.zip a) m x=some v
 |[],_,_,_,_,h,_,_=>by simp at h
 |_::_,[],_,_,_,_,h,_=>by simp at h
 |p::P,w::a,0,m,g,e,f,j=>by
  simp at e f;subst e;subst f;show bindC kindOf ((p,w)::P.zip a) m p=_;unfold bindC;rw[yh fun v k=>(h_.mp g).1 (y3 k).1,if_neg j];simp
 |p::P,w::a,i+1,m,g,e,f,j=>by
  show bindC kindOf ((p,w)::P.zip a) m x=_;unfold bindC;exact yi (i:=i) (h_.mp g).2 (by simpa using e) (by simpa using f) j
def start(N:Zb)(vs:List V):St:=vs.map some++fT (N.length-vs.length) none
def DO(CX:Hk)(P:bZ)(w:World)(K:Za)(mg:Str->Option Value)(base:Heap)(N:Zb)(qual:Str)(scope:Scope)(f:Addr)(cd:Value)(A:Around)(outer:List Env)(s:Shared)(H:Hp)(E:XK):Cx where
 prog:=P
 w:=w
 K:=K
 mg:=mg
 base:=base
 A:=A.deeper (envOfC qual scope s.heap.objs.size f cd)
 N:=N
 s₀:=s
 H₀:=H
 env:=envOfC qual scope s.heap.objs.size f cd
 outer:=outer
 stack:=envOfC qual scope s.heap.objs.size f cd::outer
 ex:=[]
 calm:=true
 fn:=fun _=>true
 pn:=[]
 xe:=fun e s'=>wpAny (model P w) (A.deeper (envOfC qual scope s.heap.objs.size f cd)) (leaving (envOfC qual scope s.heap.objs.size f cd) e) (fun _ s''=>CX outer H s E e s'') (fun e' s''=>CX outer H s E e' s'') s'
theorem Ct{a:Scope}{n:Nat}{x:Str}(h:a.names.lookup x=some .cell):∃c,(cellsFrom n a.names []).lookup x=some c:=by
 have q:=PySem.W.cellsFrom_some a.names n [] (.inl h);exact y2.mp q
theorem GA{M:Hk}{P:bZ}{w:World}{K:Za}{J:Str->Option Value}{base:Heap}{N m:Zb}{g:Str}{scope:Scope}{f:Addr}{D:Value}{A:Around}{outer:List Env}{s O:Shared}{H:Hp}{E:XK}{L:Zf}{o:List V}
  (S:lh N m scope) (U:A.handled=none) (l:Eb P w K J base A outer s H) (hl:o.length=m.length) (r:bg o L)
  (x:InCallC s s.heap.objs.size (bindL (envOfC g scope s.heap.objs.size f D).kindOf (m.zip L) fun _=>none) (cellsFrom (s.heap.objs.size+1) scope.names []) (bindC (envOfC g scope s.heap.objs.size f D).kindOf (m.zip L) fun _=>none) O) :
  Inv (DO M P w K J base N g scope f D A outer s H E) [] (start N o) H O:=by
 have Y:m.length<=N.length:=by have:=congrArg List.length S.pre;rw[aA]at this;omega
 obtain⟨G,tk,rfl,Q⟩:=x.done;have t:∀b:Addr,b∉(DO M P w K J base N g scope f D A outer s H E).ex:=fun b z=>absurd (show b∈([]:Ze)from z) (by simp);refine⟨⟨l.mod,S.kind,rfl,rfl,aB _,fun y z c G j=>?_,fun y hy=>?_,fun y c _ h=>?_,fun _=>U,Around.frames_deeper l.frames,.inr ⟨rfl,rfl⟩,fun b z=>absurd z (t b),l.bs,l.bsz,fun b _ _=>t b,fun b z=>absurd z (t b),l.funs,l.frf⟩,
  rfl,l.bare,Un.kept Q,⟨_,x.toInCall.ns,fun i y v G j h3=>?_⟩,fun y c h=>⟨_,x.cell y c h⟩,l.hok.fresh (aB _),fun y c h=>?_,fun p B=>absurd (show p∈([]:Zd)from B) (by simp),l.hok.kept Q,?_⟩
 ·exact name_of_addr x.apart (u6 G) (u6 j)
 ·have hy:scope.names.lookup y=some .cell∨scope.names.lookup y=some .free:=hy;rcases hy with hy|hy
  ·exact Ct hy
  ·exact absurd rfl (S.nofree _ (u6 hy))
 ·exact cW (x.above y c (u6 h))
 ·have I:i<o.length:=by
   unfold start at j;by_cases I:i<o.length
   ·exact I
   ·rw[u5 (by simpa using I)]at j;rw[List.getElem?_replicate]at j;split at j<;>cases j
  have ha:o[i]?=some v:=by
   unfold start at j;rw[u4 (by simpa using I),cC]at j;cases e:o[i]? with
   |none=>rw[e]at j;cases j
   |some a=>rw[e]at j;cases j;rfl
  obtain⟨u,T,rv⟩:=r.get ha;have B:m[i]?=some y:=by
   rw[<-S.pre,List.getElem?_take_of_lt (by omega)];exact G
  have C:m.Nodup:=by rw[<-S.pre];exact S.nd.sublist (List.take_sublist _ _)
  refine⟨u,rv,?_⟩;rcases S.par y (bQ B)with k|k
  ·exact .inl ⟨k,yg C B T k⟩
  ·obtain⟨c,e⟩:=Ct (n:=s.heap.objs.size+1) k;refine .inr ⟨.inl k,c,e,?_⟩;have q:=x.cell y c e;rw[yi C B T (by show scope.names.lookup y≠_;rw[k];decide)]at q;exact q
 ·exact l.hok.fresh (cW (x.above y c (u6 h)))
 ·unfold start;show _=N.length;rw[aO,ah,List.length_replicate];omega
theorem MH{G:Hk}{P:bZ}{w:World}{K:Za}{L:Str->Option Value}{base:Heap}{k:Nat}{f:Addr}{name a:Str}{params:Arguments}{h:List Stmt}{scope:Scope}{dV kV doc pm g ct oc:Value}{an od:Option Addr}
  {M:Array (Option Value)}{N ps:Zb}{O:Sp}(lk:K.lookup f=some ⟨oc,od,.func (jf name a params h scope dV kV doc pm an g ct),M⟩) (T:oR K g a=true) (S:lh N ps scope)
  (z:∀i H Q E,O i H Q E->i.length=ps.length)
  (j:∀(A:Around) (outer:List Env) (s:Shared) (H:Hp) (i:List V) (Q:VK) (E:XK),fM k (A.deeper (envOfC a scope s.heap.objs.size f g))->O i H Q E ->
   ∃t,CM (DO G P w K L base N a scope f g A outer s H E) h t/\t (bq Q) (start N i) H) :
  mU P w K L base G (k+1) f (jf name a params h scope dV kV doc pm an g ct) ps O:=by
 refine⟨z,fun A outer s H args us i Q E U B hb r C=>?_⟩;have hl:=z _ _ _ _ C;have KX:K.In s.heap:=B.mod.kin.keeps fun b o e=>(B.bs b o e).1;have Y:s.heap.NoLimit:=B.mod.nolimit.keeps fun b o e=>(B.bs b o e).1;have l:∀y∈ps.zip us,scope.names.lookup y.1=some .local∨(scope.names.lookup y.1=some .cell/\((cellsFrom (s.heap.objs.size+1) scope.names []).lookup y.1).isSome=true):=fun⟨n,v⟩ hy=>by
  rcases S.par n (y3 hy).1 with q|q
  ·exact .inl q
  ·exact .inr ⟨q,PySem.W.cellsFrom_some _ _ _ (.inl q)⟩
 refine codeAny_call_function U.depth (KX _ _ lk) rfl S.co S.gen rfl (PySem.W.codeRec_of KX T) (hb _ _ _ _ ?_);refine wpAny_newFunctionEnv_cells S.kind l fun al he s1 x=>?_;subst he;refine⟨Y.keeps x.toInCall.keep,codeAny_func ?_⟩;obtain⟨t,ht,hq⟩:=j A outer s H i Q E (U.deeper _) C;have I:Inv (DO G P w K L base N a scope f g A outer s H E) [] (start N i) H s1:=GA S U.hd B hl r x;refine pU (ht [] s1 (start N i) H _ I hq) (fun fl s' m=>?_) fun e s' m=>m;have D:∀{σ':St}{p:Hp}{v:V}{u:Value},Inv (DO G P w K L base N a scope f g A outer s H E) [] σ' p s'->RelV v u->Q v p->CE outer P w K H s Q u s' :=
  fun{σ' p v u} J rv q=>⟨v,p,J.os,J.bare,J.base,J.hok,rv,q⟩
 cases fl with
 |ret u =>
  obtain⟨v,σ',p,J,rv,q⟩:=m;exact D J rv q
 |next =>
  obtain⟨σ',p,J,q⟩:=m;exact D (v:=V.non) (u:=Value.none) J rfl q
 |brk =>
  obtain⟨_,_,_,q⟩:=m;exact j4 q
 |cont =>
  obtain⟨_,_,_,q⟩:=m;exact j4 q
end L2
namespace L2
open PySem PySem.Spec PyProof.Rows
section
variable{X:Cx}{x:Str}{p pos:Pos}{e:Expr}{es:List Expr}{t:TA}{id T:String}{r:List V->Hp->VK->Prop}
def gk(r:List V->Hp->VK->Prop)(t:TA):TE:=fun σ H Q=>t σ H fun vs H1=>r vs H1 Q
theorem BR(i:g9 X (.builtin id) r)(j:Gl X x)(k:X.mg x=none)(l:lV x=some (.builtin id))(m:PA X (e::es) t)(n:x≠"__name__":=by decide)(a:(x==("__debug__":Str))=false:=by decide)
  (o:aK (e::es) X.env=(false,eval e X.env)::aK es X.env:=by rfl) (f:(backTo pos (aK es X.env)).any (·.1)=false:=by rfl):PE X (.Call (.Name x p) (e::es) [] pos) (gk r t):=by
 intro g s σ H Q I h;refine Ee (k9 I j k l ?_ n a);exact PyProof.Rows.callWith_builtin1 (cS (m pos g s σ H _ I h) fun q u ⟨v,w,y,z,A⟩=>i g u σ w v q Q y z A) o f
theorem df(i:g9 X (.type T) r)(j:Gl X x)(k:X.mg x=none)(l:lV x=some (.type T))(m:PA X (e::es) t)(n:x≠"__name__":=by decide)(a:(x==("__debug__":Str))=false:=by decide)
  (o:aK (e::es) X.env=(false,eval e X.env)::aK es X.env:=by rfl) (f:(backTo pos (aK es X.env)).any (·.1)=false:=by rfl):PE X (.Call (.Name x p) (e::es) [] pos) (gk r t):=by
 intro g s σ H Q I h;refine Ee (k9 I j k l ?_ n a);exact sU (cS (m pos g s σ H _ I h) fun q u ⟨v,w,y,z,A⟩=>i g u σ w v q Q y z A) o f
end
end L2
namespace HT
open PySem PyProof.Rows
section
variable{prog:bZ}{w:World}{A:Around}{E:Zc}{s:Shared}
theorem cat_tup{t b:Addr}{g a:Zf}{Q:Zc}(z:IsTup s.heap t g.toArray)(B:IsTup s.heap b a.toArray)(p:g≠[])
  (C:a=[]->Q (.ref t) s) (D:a≠[]->Q (.ref s.heap.objs.size) { s with heap:=s.heap.push { cls:=.type "tuple",data:=.seq (g++a).toArray } })
  (o:g.length+a.length<=aj):wpAny (model prog w) A (j3 .Add (.ref t) (.ref b)) Q E s:=by
 obtain⟨⟨cls,q,data,r⟩,l,u,n,v⟩:=id z;obtain⟨⟨x,h,data2,i⟩,f,j,y,k⟩:=id B;simp only at u v j k;subst u v j k;have e:g.toArray++a.toArray=(g++a).toArray:=by simp
 by_cases m:a=[]
 ·exact concat_meets ⟨_,l,rfl⟩ ⟨_,f,rfl⟩ noFill_tuple_add seq_tuple_add PySem.F.slot_tuple_add PySem.F.entry_tuple_add (PySem.F.args_tuple_add_2 _ _)
   (tuple_addW1 t b g.toArray a.toArray n y q h r i (by simpa using p) (by simp[m])) ⟨l,f,C m⟩
 ·refine concat_meets ⟨_,l,rfl⟩ ⟨_,f,rfl⟩ noFill_tuple_add seq_tuple_add PySem.F.slot_tuple_add PySem.F.entry_tuple_add (PySem.F.args_tuple_add_2 _ _)
   (tuple_addW2 t b g.toArray a.toArray n y q h r i (by simpa using p) (by simpa using m) (by rw[cf,cf];exact o)) ⟨l,f,?_⟩
  rw[e];exact D m
def sIx(n d:Nat):Option Int->Nat
 |none=>d
 |some v=>if v<0 then(v+(n:Int)).toNat else min v.toNat n
theorem sIx_none(n d:Nat):sIx n d none=d:=rfl
theorem sIx_nat(n d k:Nat):sIx n d (some (k:Int))=min k n:=by
 show(if(k:Int)<0 then((k:Int)+(n:Int)).toNat else min (k:Int).toNat n)=min k n
 rw[if_neg (by omega),oQ]
theorem sIx_le(n d:Nat)(e:d<=n)(o:Option Int):sIx n d o<=n:=by
 cases o with
 |none=>exact e
 |some v =>
  show(if v<0 then(v+(n:Int)).toNat else min v.toNat n)<=n
  by_cases a:v<0
  ·rw[if_pos a];omega
  ·rw[if_neg a];exact Nat.min_le_right _ _
theorem clip_eq(v:Int)(n d:Nat):(if v<0 then max (v+(n:Int)) 0 else min v (n:Int))=((sIx n d (some v):Nat):Int):=by
 show(if v<0 then max (v+(n:Int)) 0 else min v (n:Int))=(((if v<0 then(v+(n:Int)).toNat else min v.toNat n):Nat):Int)
 by_cases a:v<0
 ·simp only[if_pos a];omega
 ·simp only[if_neg a];omega
end
end HT
namespace L2
open PySem PySem.Spec PyProof.Rows
abbrev TO:=St->Hp->(Option Int->Hp->Prop)->Prop
def PO(X:Cx)(e:Option Expr)(t:TO):Prop :=
 ∀(J5:Zd) (s:Shared) (σ:St) (H:Hp) (Q:Option Int->Hp->Prop),Inv X J5 σ H s->t σ H Q ->
  wpAny (model X.prog X.w) X.A (evalPart e X.env) (fun u s'=>∃o H',Inv X J5 σ H' s'/\IsPart u o/\Q o H') X.xe s
def c_:TO:=fun _ H Q=>Q none H
def fz(t:TE):TO:=fun σ H Q=>t σ H fun x H1=>∃i,x=.int i/\Q (some i) H1
section
variable{X:Cx}{e:Expr}{te:TE}{lo hi:Option Expr}{tl th:TO}{pos p2:Pos}
theorem fg:PO X none c_:=by
 intro a s σ H Q I h;rw[evalPart_none];exact aR ⟨none,H,I,.none,h⟩
theorem du(h:PE X e te):PO X (some e) (fz te):=by
 intro f s σ H Q I g;rw[evalPart_some];refine cS (h f s σ H _ I g) fun u n a=>?_;obtain⟨x,j,k,l,m⟩:=a;obtain⟨i,rfl,q⟩:=m;obtain⟨t,rfl⟩:=l;exact⟨some i,j,k,.int i t,q⟩
def SlR(X:Cx)(r:V->Option Int->Option Int->Hp->VK->Prop):Prop :=
 ∀(J5:Zd) (s:Shared) (σ:St) (H:Hp) (x:V) (v vl vu:Value) (lo hi:Option Int) (sl:Addr) (Q:VK),Inv X J5 σ H s->RelV x v->s.heap.IsSliceOf sl vl vu .none->IsPart vl lo->IsPart vu hi->r x lo hi H Q ->
  ∃T id,u3 (.type T) "__getitem__"=pure (some (.builtin id))/\s.TypeIs v T/\wpAny (model X.prog X.w) X.A (oP v (.ref sl)) (EP X J5 σ Q) X.xe s
def wG(r:V->Option Int->Option Int->Hp->VK->Prop)(te:TE)(tl th:TO):TE:=fun σ H Q=>te σ H fun x H1=>tl σ H1 fun l H2=>th σ H2 fun u H3=>r x l u H3 Q
theorem cY{r:V->Option Int->Option Int->Hp->VK->Prop}(m:SlR X r)(n:PE X e te)(o:PO X lo tl)(p:PO X hi th):PE X (.Subscript e (.Slice lo hi none p2) pos) (wG r te tl th):=by
 intro g s σ H Q I h;refine Subscript_ (cS (n g s σ H _ I h) fun v t f=>?_);obtain⟨x,y,z,B,C⟩:=f;refine wpAny_Slice (cS (o g t σ y _ z C) fun i D ⟨l,E,G,J,L⟩=>cS (p g D σ E _ G L) fun j a f=>?_);obtain⟨u,k,M,N,O⟩:=f;rw[evalPart_none];refine aR ?_;have U:Inv X g σ k { a with heap:=a.heap.push { cls:=.type "slice",data:=.fields #[i,j,.none] } }:=M.kept (t':=a.toks) fun b ob q=>a_ _ q;obtain⟨T,id,Y,ht,hg⟩:=m g { a with heap:=a.heap.push { cls:=.type "slice",data:=.fields #[i,j,.none] } } σ k x v i j l u a.heap.objs.size Q U B (Heap.IsSliceOf.new ..) J N O;show wpAny (model X.prog X.w) X.A (subscriptTail e (.Slice lo hi none p2) v (.ref a.heap.objs.size)) (EP X g σ Q) X.xe { a with heap:=a.heap.push { cls:=.type "slice",data:=.fields #[i,j,.none] } };exact tail_any (ops:=[.ref a.heap.objs.size,v]) ht Y hg (by with_unfolding_all rfl)
def gq(xs:List V)(lo hi:Option Int):List V:=(xs.drop (HT.sIx xs.length 0 lo)).take (HT.sIx xs.length xs.length hi-HT.sIx xs.length 0 lo)
theorem Cn(a:List V)(lo hi:Option Int):(gq a lo hi).length<=a.length:=by
 unfold gq;rw[aA,eF];omega
def Mt(K:Za):R2:=fun x y H Q=>∃a b xs ys,x=.ref a/\y=.ref b/\bT K H a xs/\bT K H b ys/\xs≠[]/\xs.length+ys.length<=aj /\
 (ys=[]->Q (.ref a) H)/\(ys≠[]->∀p,H p=none->Q (.ref p) (upd H p (.tup (xs++ys))))
theorem bg.nil_iff{a:List V}{f:Zf}(r:bg a f):f=[]↔a=[]:=by
 cases r with
 |nil=>simp
 |cons _ _=>simp
theorem Ky:nL X (j3 .Add) (Mt X.K):=by
 intro E s σ H x y v u Q I k l h;obtain⟨a,b,m,n,rfl,rfl,p,r,t,i,A,B⟩:=h;cases k;cases l;obtain⟨C,g,D,_⟩:=I.tuple p;obtain⟨j,f,p2,_⟩:=I.tuple r;refine HT.cat_tup D p2 (fun z=>t (g.nil_iff.mp z)) (fun z=>⟨.ref a,H,I,rfl,A (f.nil_iff.mp z)⟩) (fun z=>?_) (by rw[<-g.length,<-f.length];exact i);refine⟨.ref s.heap.objs.size,_,I.laid (t':=s.toks) (o:=.tup (m++n)) (fun b G q=>a_ _ q) (aB _) ?_,rfl,B (fun w=>z (f.nil_iff.mpr w)) _ (I.hok.fresh (aB _))⟩;exact⟨by rw[aO];exact i,_,g.append f,IsTup.new _ _⟩
end
end L2
namespace L2
open PySem PySem.Spec PyProof.Rows
def Hf(n:Nat)(i:Int):Option Nat:=if 0<=i then(if i<n then some i.toNat else none)else if -(n:Int)<=i then some (i+n).toNat else none
def AJ{α:Type}(xs:List α)(i:Int):Option α:=(Hf xs.length i).bind fun j=>xs[j]?
theorem EV{n:Nat}{i:Int}{j:Nat}(h:Hf n i=some j):seqIndex? i n=some j/\j<n/\-(n:Int)<=i/\i<n:=by
 unfold Hf at h;by_cases f:0<=i
 ·rw[if_pos f]at h;by_cases a:i<n
  ·rw[if_pos a]at h;have e:i.toNat=j:=f6 h;exact⟨by rw[seqIndex_of f a,e],by omega,by omega,a⟩
  ·rw[if_neg a]at h;cases h
 ·rw[if_neg f]at h;by_cases a:-(n:Int)<=i
  ·rw[if_pos a]at h;have e:(i+n).toNat=j:=f6 h;exact⟨by rw[seqIndex_neg (by omega) a,e],by omega,a,by omega⟩
  ·rw[if_neg a]at h;cases h
theorem AI{α:Type}{a:List α}{i:Int}{v:α}(h:AJ a i=some v):∃j,seqIndex? i a.length=some j/\a[j]?=some v/\j<a.length/\-(a.length:Int)<=i/\i<a.length:=by
 unfold AJ at h;cases e:Hf a.length i with
 |none=>rw[e]at h;cases h
 |some j =>
  rw[e]at h;obtain⟨f,g,k,l⟩:=EV e;exact⟨j,f,h,g,k,l⟩
theorem aN{α:Type}{a:List α}{j:Nat}{v:α}(h:a[j]?=some v):AJ a (j:Int)=some v:=by
 have f:j<a.length:=(cj.mp h).1;have e:Hf a.length (j:Int)=some j:=by
  unfold Hf;rw[if_pos (by omega),if_pos (by omega)];simp
 unfold AJ;rw[e];exact h
theorem Jk{α:Type}(a:List α)(v:α):AJ (a++[v]) (-1)=some v:=by
 have f:(a++[v]).length=a.length+1:=by simp
 have e:Hf (a++[v]).length (-1)=some a.length:=by
  unfold Hf;rw[f,if_neg (by decide),if_pos (by omega)];congr 1;omega
 unfold AJ;rw[e];show(a++[v])[a.length]?=some v;simp
def KZ(b:Expr):Prop:=∀o i,y1 b false o i=operate [o,i] (oP o i)
def K3(X:Cx)(r:R2):Prop :=
 ∀(value slice:Expr) (J5:Zd) (s:Shared) (σ:St) (H:Hp) (x y:V) (v u:Value) (Q:VK),Inv X J5 σ H s->RelV x v->RelV y u->r x y H Q ->
  y1 slice false v u=operate [v,u] (oP v u)->wpAny (model X.prog X.w) X.A (subscriptTail value slice v u) (EP X J5 σ Q) X.xe s
def MtR(X:Cx)(id:String)(r:V->List V->Hp->VK->Prop):Prop :=
 ∀(J5:Zd) (s:Shared) (σ:St) (H:Hp) (x:V) (xs:List V) (v:Value) (us:Zf) (Q:VK),Inv X J5 σ H s->RelV x v->bg xs us->r x xs H Q ->
  wpAny (model X.prog X.w) X.A (call (.builtin id) (v::us)) (EP X J5 σ Q) X.xe s
section
variable{X:Cx}{a b:Expr}{ta tb:TE}{pos:Pos}
theorem K3.or{r e:R2}(h:K3 X r)(k:K3 X e):K3 X (fun x y H Q=>r x y H Q∨e x y H Q):=by
 intro value slice f s σ H x y v u Q I g i q j;rcases q with q|q
 ·exact h value slice f s σ H x y v u Q I g i q j
 ·exact k value slice f s σ H x y v u Q I g i q j
theorem EH{r:R2}(e:K3 X r)(f:PE X a ta)(g:PE X b tb)(i:KZ b):PE X (.Subscript a b pos) (az r ta tb):=by
 intro j s σ H Q I h;exact Subscript_ (Ma f g I h fun v u k x y l m n o q=>e a b j k σ l x y v u Q m n o q (i _ _))
def cM(K:Za):R2:=fun x y H Q=>∃p xs i v,x=.ref p/\y=.int i/\ay K H p xs/\AJ xs i=some v/\Q v H
def dF(K:Za):R2:=fun x y H Q=>∃p xs i v,x=.ref p/\y=.int i/\bT K H p xs/\AJ xs i=some v/\Q v H
def HW:R2:=fun x y H Q=>∃z i c,x=.str z/\y=.int i/\z.length<=aj/\AJ z.cps.toList i=some c/\Q (.str ⟨#[c]⟩) H
theorem EU:K3 X (cM X.K):=by
 intro value slice n s σ H x y v u Q I C D h o;obtain⟨p,T,i,z,rfl,rfl,E,G,q⟩:=h;cases C;obtain⟨t,rfl⟩:=D;obtain⟨g,r,k,U⟩:=I.list E;obtain⟨j,f,J,Y,L,M⟩:=AI G;obtain⟨w,A,l⟩:=r.get J;have N:=r.length;have hn:=sj;have e:EP X n σ Q w s:=⟨z,H,I,l,q⟩;by_cases B:0<=i
 ·have m:i.toNat=j:=by
   rw[seqIndex_of B M]at f;exact f6 f
  exact item_listR k.isList B (by omega) (by rw[m];simpa using A) e o
 ·have m:(i+(g.toArray.size:Int)).toNat=j:=by
   rw[seqIndex_neg (by omega) L]at f;rw[cf,<-N];exact f6 f
  exact subscriptTail_builtinR (x:=w) k.isList.typeIs slot_list_getitem.lookup
   (wpAny_getItem_list_neg (Q:=fun r O=>r=w/\EP X n σ Q r O) k.isList (by omega) (by rw[cf]<;>omega) (by omega) (by rw[m];simpa using A) ⟨rfl,e⟩) o
theorem IL:K3 X (dF X.K):=by
 intro value slice g s σ H x y v u Q I l m h n;obtain⟨p,L,i,z,rfl,rfl,o,A,q⟩:=h;cases l;obtain⟨t,rfl⟩:=m;obtain⟨B,r,k,M⟩:=I.tuple o;obtain⟨j,C,D,N,O,T⟩:=AI A;obtain⟨w,E,e⟩:=r.get D;have G:=r.length;have U:=sj;have f:EP X g σ Q w s:=⟨z,H,I,e,q⟩;exact subscriptTail_builtinR (x:=w) k.typeIs slot_tuple_getitem.lookup
  (getItem_tuple (j:=j) (Q:=fun r J=>r=w/\EP X g σ Q r J) k (by omega) (by omega) (by rw[cf,<-G];exact C) (by simpa using E) ⟨rfl,f⟩) n
theorem IM:K3 X HW:=by
 intro value slice A s σ H x y v u Q I f g h k;obtain⟨z,i,c,rfl,rfl,B,l,q⟩:=h;obtain⟨t,rfl⟩:=f;obtain⟨C,rfl⟩:=g;obtain⟨j,e,m,D,n,o⟩:=AI l;have p:z.cps.toList.length=z.length:=by simp[Str.length]
 rw[p]at e n o;have E:=sj;exact tail_any (typeIs_str s z t) slot_str_getitem.lookup (getItem_str (c:=c) (by
  have r:decide (i < -(2 ^ 63:Int))=false:=zzr0 (by omega);have w:decide (i ≥ 2 ^ 63)=false:=zzr0 (by omega);rw[r,w,Bool.or_false]) (by rw[e];simpa using m) ⟨.str ⟨#[c]⟩,H,I.tok _,⟨_,rfl⟩,q⟩) k
def t7(K:Za):R2:=fun x y H Q=>cM K x y H Q∨dF K x y H Q∨HW x y H Q
theorem LU:K3 X (t7 X.K):=EU.or (IL.or IM)
theorem Dx(e:Zf)(n j:Nat)(u:Value):iO (·.setIfInBounds j u) { cls:=.type "list",data:=.seq e.toArray n }={ cls:=.type "list",data:=.seq (e.set j u).toArray n }:=by
 simp[iO]
theorem Inv.lst{i:Zd}{σ:St}{H:Hp}{s:Shared}{p:Addr}{g:List V}(I:Inv X i σ H s)(h:H p=some (.lst g)):
  ∃(f:Zf) (n:Nat),bg g f/\s.heap.get? p=some { cls:=.type "list",data:=.seq f.toArray n }/\g.length<=aj:=by
 obtain⟨z,f,n,r,e⟩:=I.hok p _ h;exact⟨f,n,r,e,z⟩
theorem Inv.lstUpd{l:Zd}{σ:St}{H:Hp}{s:Shared}{p:Addr}{o j:List V}{i g:Zf}{n k:Nat}{f:Obj->Obj}(I:Inv X l σ H s)(h:H p=some (.lst o))
  (v:s.heap.get? p=some { cls:=.type "list",data:=.seq i.toArray n }) (m:f { cls:=.type "list",data:=.seq i.toArray n }={ cls:=.type "list",data:=.seq g.toArray k }) (r:bg j g) (w:j.length<=aj) (t:Nat) :
  Inv X l σ (upd H p (.lst j)) { s with heap:=s.heap.update p f,toks:=t }:=by
 have e:(s.heap.update p f).get? p=some { cls:=.type "list",data:=.seq g.toArray k }:=by
  rw[mm f v (by rw[m]<;>rfl),m]
 refine I.write (x:=p) (e:=p) (by rw[h];trivial) (.inl rfl) (fun b u y q=>(rH _ _ (b_ y)).trans q) ⟨_,e⟩ ?_;exact⟨w,g,k,r,e⟩
def oA:V->V->V->Hp->(Hp->Prop)->Prop:=fun o i v H Q=>∃p xs k j,o=.ref p/\i=.int k/\H p=some (.lst xs)/\Hf xs.length k=some j/\Q (upd H p (.lst (xs.set j v)))
theorem iF:ML X oA:=by
 intro B s σ H o i v M N u Q I C D E h;obtain⟨p,G,k,j,rfl,rfl,w,J,q⟩:=h;cases C;obtain⟨t,rfl⟩:=D;obtain⟨e,n,r,g,L⟩:=I.lst w;obtain⟨f,O,x,y⟩:=EV J;have l:=r.length;have T:=sj;have z:Inv X B σ (upd H p (.lst (G.set j v))) { s with heap:=s.heap.update p (iO (·.setIfInBounds j u)) } :=
  I.lstUpd w g (Dx e n j u) (r.set E j) (by rw[kM];exact L) s.toks
 by_cases A:0<=k
 ·have m:k.toNat=j:=by
   rw[seqIndex_of A y]at f;exact f6 f
  exact PySem.W.ki_setAt g A (by omega) (by rw[cf,<-l];exact y) (by rw[m];exact⟨_,z,q⟩)
 ·have m:(k+(e.toArray.size:Int)).toNat=j:=by
   rw[seqIndex_neg (by omega) x]at f;rw[cf,<-l];exact f6 f
  exact PySem.W.ki_setBack g (by omega) (by rw[cf,<-l];exact x) (by omega) (by rw[m];exact⟨_,z,q⟩)
theorem zW(lo e:Option Int)(n:Nat):(oO lo e none n).1=((HT.sIx n 0 lo:Nat):Int)/\(oO lo e none n).2.1=((HT.sIx n n e:Nat):Int)/\(oO lo e none n).2.2=1:=by
 refine⟨?_,?_,rfl⟩
 ·cases lo with
  |none=>simp[oO,HT.sIx]
  |some i =>
   simp only[oO,HT.sIx,Option.getD_none,show(1:Int) > 0 by decide,if_true];by_cases h:i<0
   ·simp only[h,if_true]<;>omega
   ·simp only[h,if_false]<;>omega
 ·cases e with
  |none=>simp[oO,HT.sIx]
  |some i =>
   simp only[oO,HT.sIx,Option.getD_none,show(1:Int) > 0 by decide,if_true];by_cases h:i<0
   ·simp only[h,if_true]<;>omega
   ·simp only[h,if_false]<;>omega
theorem wT(e:Zf)(lo f:Option Int):slicePick e.toArray lo f none=((e.drop (HT.sIx e.length 0 lo)).take (HT.sIx e.length e.length f-HT.sIx e.length 0 lo)).toArray:=by
 obtain⟨g,h,i⟩:=zW lo f e.toArray.size;unfold slicePick;rw[g,h,i];simp only[sliceRange_one,pick_run,cf]<;>rfl
def lN(K:Za):V->Option Int->Option Int->Hp->VK->Prop:=fun x lo hi H Q=>∃a xs,x=.ref a/\ay K H a xs/\∀p,H p=none->Q (.ref p) (upd H p (.lst (gq xs lo hi)))
theorem fI:SlR X (lN X.K):=by
 intro u s σ H x v w y lo g z Q I j k l m h;obtain⟨a,e,rfl,n,q⟩:=h;cases j;obtain⟨p,r,i,t⟩:=I.list n;have f:=r.length;refine⟨"list",_,slot_list_getitem.lookup,i.isList.typeIs,?_⟩;refine wpAny_getItem_list_slice i.isList k l m .none (by simp) ?_ (by rw[cf]<;>omega);rw[wT,<-f];refine⟨.ref s.heap.objs.size,_,I.laid (t':=s.toks) (o:=.lst (gq e lo g)) (fun b A q=>a_ _ q) (aB _) ?_,rfl,q _ (I.hok.fresh (aB _))⟩;exact⟨aD (Cn e lo g) t,_,0,(r.drop (HT.sIx e.length 0 lo)).take (HT.sIx e.length e.length g-HT.sIx e.length 0 lo),dh _ rfl⟩
theorem AF:g9 X (.builtin "len") (fun k H Q=>∃p f,k=[.ref p]/\(ay X.K H p f∨bT X.K H p f)/\Q (.int f.length) H):=by
 intro n s σ H k o Q I r h;obtain⟨p,f,rfl,hq,q⟩:=h;obtain⟨u,rfl,l⟩:=vals1 r;cases l;have t:=sj;rcases hq with hq|hq
 ·obtain⟨g,i,j,m⟩:=I.list hq;have e:=i.length;exact Calls.call_len_list j.isList (by simp only[cf]<;>omega) ⟨.int f.length,H,I.tok _,⟨s.toks+1,by rw[cf,e]⟩,q⟩
 ·obtain⟨g,i,j,m⟩:=I.tuple hq;have e:=i.length;exact len_tuple j (by simp only[cf]<;>omega) ⟨.int f.length,H,I.tok _,⟨s.toks+1,by rw[cf,e]⟩,q⟩
theorem AE:g9 X (.builtin "len") (fun e H Q=>∃z,e=[.str z]/\z.length<=aj/\Q (.int z.length) H):=by
 intro f s σ H e g Q I r h;obtain⟨z,rfl,i,q⟩:=h;obtain⟨u,rfl,t,rfl⟩:=vals1 r;have j:=sj;exact len_str (by omega) ⟨.int z.length,H,I.tok _,⟨_,rfl⟩,q⟩
theorem g9.or{f:Value}{r g:List V->Hp->VK->Prop}(h:g9 X f r)(l:g9 X f g):g9 X f (fun e H Q=>r e H Q∨g e H Q):=by
 intro i s σ H e j Q I k q;rcases q with q|q
 ·exact h i s σ H e j Q I k q
 ·exact l i s σ H e j Q I k q
theorem AD:g9 X (.type "list") (fun B H Q=>∃p i,B=[.ref p]/\(ay X.K H p i∨bT X.K H p i)/\∀l,H l=none->Q (.ref l) (upd H l (.lst i))):=by
 intro D s σ H B G Q I r h;obtain⟨p,i,rfl,hq,q⟩:=h;obtain⟨u,rfl,E⟩:=vals1 r;cases E;have m:∀(f:Zf),bg i f->i.length<=aj->∀(g:Heap) (j:Nat),(∀b C,s.heap.get? b=some C->g.get? b=some C) ->
   g.get? s.heap.objs.size=some { cls:=.type "list",dict:=none,data:=.seq f.toArray j,slots:=#[] }->EP X D σ Q (.ref s.heap.objs.size) { s with heap:=g }:=fun f k t g j kp e =>
  ⟨.ref s.heap.objs.size,_,I.laid (t':=s.toks) kp (aB _) (show cZ X.prog X.w X.K _ g _ (.lst i)from⟨t,f,j,k,e⟩),rfl,q _ (I.hok.fresh (aB _))⟩
 rcases hq with hq|hq
 ·obtain⟨f,k,x,t⟩:=I.list hq;have v:=k.length;obtain⟨o,y,z,n,A⟩:=x.isList;exact call_list_seq p (.inl rfl) y z A (fun g j kp e=>m f k t g j kp e) (by simp only[cf]<;>omega)
 ·obtain⟨f,k,x,t⟩:=I.tuple hq;have v:=k.length;obtain⟨o,y,z,n,A⟩:=x;exact call_list_seq p (.inr rfl) y z A (fun g j kp e=>m f k t g j kp e) (by simp only[cf]<;>omega)
theorem cJ:g9 X (.type "tuple") (fun n H Q=>∃p g,n=[.ref p]/\((ay X.K H p g/\∀l,H l=none->Q (.ref l) (upd H l (.tup g)))∨(bT X.K H p g/\Q (.ref p) H))):=by
 intro t s σ H n B Q I r h;obtain⟨p,g,rfl,h⟩:=h;obtain⟨u,rfl,z⟩:=vals1 r;cases z;rcases h with⟨j,q⟩|⟨j,q⟩
 ·obtain⟨f,k,m,v⟩:=I.list j;have x:=k.length;refine call_tuple_list m.isList (fun i kp=>?_) (by simp only[cf]<;>omega);have y:Inv X t σ H { s with heap:=i }:=I.kept (t':=s.toks) kp;have A:Inv X t σ (upd H i.objs.size (.tup g)) { s with heap:=i.push { cls:=.type "tuple",data:=.seq f.toArray } } :=
   y.laid (t':=s.toks) (fun b o e=>a_ _ e) (aB _) (show cZ X.prog X.w X.K _ _ _ (.tup g)from⟨v,f,k,IsTup.new _ _⟩)
  exact⟨.ref i.objs.size,_,A,rfl,q _ (y.hok.fresh (aB _))⟩
 ·obtain⟨f,k,m,v⟩:=I.tuple j;exact call_tuple_same m ⟨.ref p,H,I,rfl,q⟩
def tyV(K:Za)(T:String)(x:V)(H:Hp):Prop:=match x with
 |.str _=>T="str"
 |.int _=>T="int"
 |.ref p=>(T="list"/\∃xs,ay K H p xs)∨(T="tuple"/\∃o,K.lookup p=some o/\o.cls=.type "tuple"/\o.dict=none) ∨
   (T="dict"/\((∃kvs,H p=some (.dK kvs))∨∃kvs,H p=some (.dT kvs)))∨(T="set"/\∃S n,H p=some (.set S n))
 |_=>False
theorem Hr{m:Zd}{σ:St}{H:Hp}{s:Shared}{T:String}{x:V}{v:Value}(I:Inv X m σ H s)(r:RelV x v)(ty:tyV X.K T x H):
  s.TypeIs v T/\∀a,v=.ref a->∃k,s.heap.get? a=some k/\k.dict=none:=by
 cases x with
 |str z =>
  obtain⟨t,rfl⟩:=r;cases(show T="str" from ty);exact⟨typeIs_str s z t,fun _ e=>nomatch e⟩
 |int i =>
  obtain⟨t,rfl⟩:=r;cases(show T="int" from ty);exact⟨typeIs_int s i t,fun _ e=>nomatch e⟩
 |ref p =>
  cases r;rcases ty with⟨rfl,y,q⟩|⟨rfl,o,f,u,g⟩|⟨rfl,f⟩|⟨rfl,S,n,f⟩
  ·obtain⟨w,_,l,_⟩:=I.list q;refine⟨l.isList.typeIs,fun a e=>?_⟩;cases e;obtain⟨o,n,e,c,g,_⟩:=l;exact⟨o,e,g⟩
  ·refine⟨⟨o,I.kIn p o f,u⟩,fun a e=>?_⟩;cases e;exact⟨o,I.kIn _ o f,g⟩
  ·have z:∃o,s.heap.get? p=some o/\o.ExactDict:=by
    rcases f with⟨h,f⟩|⟨h,f⟩
    ·obtain⟨_,_,_,_,o,_,_,e,ex,_⟩:=I.hok p _ f;exact⟨o,e,ex⟩
    ·obtain⟨_,_,_,_,o,_,_,e,ex,_⟩:=I.hok p _ f;exact⟨o,e,ex⟩
   obtain⟨o,e,ex⟩:=z;refine⟨⟨o,e,ex.1⟩,fun a j=>?_⟩;cases j;exact⟨o,e,ex.2.1⟩
  ·obtain⟨o,_,_,_,e,ex,_⟩:=I.hok p _ f;refine⟨⟨o,e,ex.1⟩,fun a j=>?_⟩;cases j;exact⟨o,e,ex.2.1⟩
 |_=>exact j4 ty
def JP(K:Za)(T:String)(r:V->List V->Hp->VK->Prop)(to:TE):TE:=fun σ H Q=>to σ H fun x H1=>tyV K T x H1/\r x [] H1 Q
def Dc(K:Za)(T:String)(r:V->List V->Hp->VK->Prop)(to:TE)(t:TA):TE:=fun σ H Q=>to σ H fun x H1=>tyV K T x H1/\t σ H1 fun xs H2=>r x xs H2 Q
variable{o e:Expr}{es:List Expr}{to:TE}{t:TA}{name:Str}{J7 J6:Pos}{T id:String}{r:V->List V->Hp->VK->Prop}
theorem Du(p:PlainAttrs T)(i:Slot T name id)(j:typeOf (.builtin id)=pure (.type "method_descriptor"))(q:MtR X id r)(u:PE X o to)
  (f:xi o name X.env (eval o X.env)=eval o X.env:=by rfl) (g:(J7.endLine==J6.line)=true:=by rfl):PE X (.Call (.Attribute o name J7) [] [] J6) (JP X.K T r to):=by
 intro l s σ H Q I h;refine wpAny_Call_method0_late f g (cS (u l s σ H _ I h) fun v w k=>?_);obtain⟨x,y,m,n,ty,z⟩:=k;obtain⟨A,B⟩:=Hr m n ty;exact⟨T,id,p,i,j,A,B,y0 rfl (PySem.evalArgs_none (q l w σ y x [] v [] Q m n .nil z))⟩
theorem jq(w:PlainAttrs T)(j:Slot T name id)(l:typeOf (.builtin id)=pure (.type "method_descriptor"))(y:MtR X id r)(z:PE X o to)(A:PA X (e::es) t)
  (g:xi o name X.env (eval o X.env)=eval o X.env:=by rfl)
  (k:((backTo J6 (aK (e::es) X.env)).all (fun x=>!x.1) && (pP J6 (pO [] X.env)).all (fun x=>x.1.isSome)
   && decide ((e::es).length+([]:List rG).length+(if([]:List rG).isEmpty then 0 else 1)<30))=true:=by rfl)
  (i:(J7.endLine==J6.line)=true:=by rfl) (B:aK (e::es) X.env=(false,eval e X.env)::aK es X.env:=by rfl) (f:(backTo J6 (aK es X.env)).any (·.1)=false:=by rfl) :
  PE X (.Call (.Attribute o name J7) (e::es) [] J6) (Dc X.K T r to t):=by
 intro m s σ H Q I h;refine wpAny_Call_method_late g k i rfl (cS (z m s σ H _ I h) fun v C n=>?_);obtain⟨x,D,p,q,ty,E⟩:=n;obtain⟨G,J⟩:=Hr p q ty;refine⟨T,id,w,j,l,G,J,?_⟩;have u:=A J6 m C σ D _ p E;rw[B]at u ⊢;refine y0 (by show(false || (backTo J6 (aK es X.env)).any (·.1))=false;rw[f]<;>rfl) (Calls.evalArgs_plain ?_);exact cS u fun L M ⟨N,O,U,Y,q2⟩=>y m M σ O x N v L Q U q Y q2
end
end L2
namespace L2
open PySem PySem.Spec PyProof.Rows
def Mj(X:Cx)(id:String)(r:V->List V->Hp->VK->Prop):Prop :=
 ∀(J5:Zd) (s:Shared) (σ:St) (H:Hp) (x:V) (xs:List V) (v:Value) (us:Zf) (Q:VK),Inv X J5 σ H s->RelV x v->bg xs us->r x xs H Q ->
  wpAny (model X.prog X.w) X.A (call (.builtin id) (v::us)) (EP X J5 σ Q) X.xe s
theorem bg.one{x:V}{a:Zf}(h:bg [x] a):∃u,a=[u]/\RelV x u:=by
 cases h with
 |cons r t=>cases t;exact⟨_,rfl,r⟩
theorem bg.two{x y:V}{a:Zf}(h:bg [x,y] a):∃u v,a=[u,v]/\RelV x u/\RelV y v:=by
 cases h with
 |cons r t =>
  obtain⟨v,e,q⟩:=bg.one t;exact⟨_,v,by rw[e],r,q⟩
theorem bg.zero:∀{a:Zf},bg [] a->a=[]
 |_,.nil=>rfl
theorem bg.dropLast{a:List V}{e:Zf}(h:bg a e):bg a.dropLast e.dropLast:=by
 induction h with
 |nil=>exact .nil
 |cons r t f =>
  cases t with
  |nil=>exact .nil
  |cons q g=>exact .cons r f
theorem bg.reverse{a:List V}{e:Zf}(h:bg a e):bg a.reverse e.reverse:=by
 induction h with
 |nil=>exact .nil
 |cons r t f=>rw[rF,rF];exact bg.append f (.cons r .nil)
theorem DJ{α:Type}(l:List α):l.eraseIdx (l.length-1)=l.dropLast:=by
 induction l with
 |nil=>rfl
 |cons a r f =>
  cases r with
  |nil=>rfl
  |cons b r =>
   have e:(a::b::r).length-1=((b::r).length-1)+1:=by
    have g:(a::b::r).length=r.length+2:=rfl;have h:(b::r).length=r.length+1:=rfl;omega
   rw[e,List.eraseIdx_cons_succ,f]
   all_goals rfl
section
variable{X:Cx}{J5:Zd}{σ:St}{H:Hp}{s:Shared}{l b:Addr}{xs ys zs:List V}
theorem Inv.lset{a its':Zf}{n:Nat}{f:Array Value->Array Value}{g:Nat}(I:Inv X J5 σ H s)(h:H l=some (.lst xs))
  (e:s.heap.get? l=some { cls:=.type "list",data:=.seq a.toArray n }) (i:f a.toArray=its'.toArray) (j:bg ys its') (k:ys.length<=aj) :
  Inv X J5 σ (upd H l (.lst ys)) { s with heap:=s.heap.update l (iO f),toks:=g }:=by
 have q:=PySem.IsL.update e f;rw[i]at q;refine I.write (x:=l) (e:=l) (by rw[h];exact trivial) (.inl rfl) (fun p u m o=>(rH s.heap (iO f) (b_ m)).trans o) ⟨_,q⟩ ?_;exact⟨k,its',_,j,q⟩
theorem Inv.lnew{a:Zf}{t':Nat}(I:Inv X J5 σ H s)(e:bg ys a)(f:ys.length<=aj):
  Inv X J5 σ (upd H s.heap.objs.size (.lst ys)) { s with heap:=s.heap.push { cls:=.type "list",data:=.seq a.toArray },toks:=t' } :=
 I.laid (fun _ _ q=>a_ _ q) (aB _) ⟨f,a,0,e,dh _ rfl⟩
theorem Inv.fresh(I:Inv X J5 σ H s):H s.heap.objs.size=none:=I.hok.fresh (aB _)
theorem Inv.lstM(I:Inv X J5 σ H s)(f:H l=some (.lst xs)):xs.length<=aj/\∃(a:Zf) (n:Nat),bg xs a/\xs.length=a.length/\s.heap.get? l=some { cls:=.type "list",data:=.seq a.toArray n }:=by
 obtain⟨z,a,n,r,e⟩:=I.hok l _ f;exact⟨z,a,n,r,r.length,e⟩
theorem Iy{n:Nat}(h:n<=aj):cc.List.listTooLong n=false:=by
 unfold cc.List.listTooLong;exact zzr0 (by omega)
end
section
variable{X:Cx}
def gb:V->List V->Hp->VK->Prop:=fun x vs H Q=>∃l xs y,x=.ref l/\vs=[y]/\H l=some (.lst xs)/\xs.length<aj/\Q .non (upd H l (.lst (xs++[y])))
theorem dg:Mj X "list.append" gb:=by
 intro k s σ H x m v o Q I g i h;obtain⟨l,p,y,rfl,rfl,f,t,q⟩:=h;cases g;obtain⟨u,rfl,j⟩:=i.one;obtain⟨z,a,n,r,w,e⟩:=I.lstM f;refine uZ F.slot_list_append ⟨_,e,rfl⟩ F.entry_list_append (F.args_list_append_2 _ _) (PySem.list_append l a.toArray n u (by rw[cf];omega)) ⟨e,?_⟩;refine⟨.non,_,I.lset (its':=a++[u]) f e (by simp) (r.append (.cons j .nil)) ?_,rfl,q⟩;rw[aO,List.length_singleton];omega
def EA:V->List V->Hp->VK->Prop:=fun x vs H Q=>∃l b xs zs,x=.ref l/\vs=[.ref b]/\H l=some (.lst xs)/\H b=some (.lst zs)/\xs.length+zs.length<=aj/\Q .non (upd H l (.lst (xs++zs)))
theorem Gp:Mj X "list.extend" EA:=by
 intro A s σ H x B v C Q I k m h;obtain⟨l,b,D,E,rfl,rfl,j,hB,G,q⟩:=h;cases k;obtain⟨u,rfl,o⟩:=m.one;cases o;obtain⟨z,f,n,r,J,e⟩:=I.lstM j;obtain⟨L,a,p,t,w,y⟩:=I.lstM hB;have i:f.toArray.size+a.toArray.size<=aj:=by rw[cf,cf];omega
 have g:¬(!f.toArray.isEmpty && cc.List.listTooLong (f.toArray.size+a.toArray.size))=true:=by
  rw[Iy i,Bool.and_false];exact jc
 refine uZ F.slot_list_extend ⟨_,e,rfl⟩ F.entry_list_extend (F.args_list_extend_2 _ _)
  (AutoSeq1.list_extend_list_list_0 l f.toArray n b a.toArray p g (by rw[cf];omega) (by omega)) ⟨e,y,?_⟩
 refine⟨.non,_,I.lset (its':=f++a) j e (by simp) (r.append t) ?_,rfl,q⟩;rw[aO];omega
def LG:V->List V->Hp->VK->Prop:=fun x vs H Q=>∃l xs y,x=.ref l/\vs=[]/\H l=some (.lst xs)/\xs[xs.length-1]?=some y/\Q y (upd H l (.lst xs.dropLast))
theorem IE:Mj X "list.pop" LG:=by
 intro w s σ H x A v B Q I j k h;obtain⟨l,C,y,rfl,rfl,i,m,q⟩:=h;cases j;have f:=k.zero;subst f;obtain⟨z,a,n,r,o,e⟩:=I.lstM i;obtain⟨u,p,t⟩:=r.get m;have g:a.toArray[a.toArray.size-1]?=some u:=by
  show a.toArray[a.length-1]?=some u;rw[<-Array.getElem?_toList,<-o];exact p
 refine uZ F.slot_list_pop ⟨_,e,rfl⟩ F.entry_list_pop (F.args_list_pop_1 _) (MeetsSeq.list_pop_last l a.toArray n u g (by rw[cf];omega)) ⟨e,?_⟩;refine⟨y,_,I.lset (its':=a.dropLast) i e ?_ r.dropLast ?_,t,q⟩
 ·show a.toArray.eraseIdxIfInBounds (a.toArray.size-1)=a.dropLast.toArray;rw[cf,List.eraseIdxIfInBounds_toArray,DJ]
 ·rw[List.length_dropLast];omega
def BL:V->List V->Hp->VK->Prop:=fun x vs H Q=>∃l xs,x=.ref l/\vs=[]/\H l=some (.lst xs)/\Q .non (upd H l (.lst xs.reverse))
theorem Dw:Mj X "list.reverse" BL:=by
 intro k s σ H x m v o Q I i j h;obtain⟨l,p,rfl,rfl,g,q⟩:=h;cases i;have f:=j.zero;subst f;obtain⟨z,a,n,r,t,e⟩:=I.lstM g;refine uZ F.slot_list_reverse ⟨_,e,rfl⟩ F.entry_list_reverse (F.args_list_reverse_1 _) (AutoSeq1.list_reverse_list_0 l a.toArray n (by rw[cf];omega)) ⟨e,?_⟩;refine⟨.non,_,I.lset (its':=a.reverse) g e (by simp) r.reverse ?_,rfl,q⟩;rw[iN];omega
def jC:R2:=fun x y H Q=>∃l b xs zs,x=.ref l/\y=.ref b/\H l=some (.lst xs)/\H b=some (.lst zs)/\xs.length+zs.length<=aj/\∀p,H p=none->Q (.ref p) (upd H p (.lst (xs++zs)))
theorem fD:nL X (j3 .Add) jC:=by
 intro t s σ H x y v u Q I g i h;obtain⟨l,b,w,A,rfl,rfl,j,hB,B,q⟩:=h;cases g;cases i;obtain⟨z,f,n,r,C,e⟩:=I.lstM j;obtain⟨D,a,E,k,m,o⟩:=I.lstM hB;refine PySem.P.add_list e o ?_ (by rw[cf,cf];omega);have p:f.toArray++a.toArray=(f++a).toArray:=by simp
 rw[p];exact⟨.ref _,_,I.lnew (t':=s.toks) (r.append k) (by rw[aO];omega),rfl,q _ I.fresh⟩
end
end L2
namespace L2
open PySem PySem.Spec PyProof.Rows
section
variable{κ:Type}[DecidableEq κ]
def bu(kvs:List (κ×V))(k:κ):Option V:=(kvs.find? fun kv=>decide (kv.1=k)).map (·.2)
def eG(kvs:List (κ×V))(k:κ)(v:V):List (κ×V) :=
 if(kvs.any fun kv=>decide (kv.1=k))=true then kvs.map (fun kv=>if kv.1=k then(kv.1,v)else kv)else kvs++[(k,v)]
theorem ee{p:κ×V}{r:List (κ×V)}{k:κ}(e:p.1=k):bu (p::r) k=some p.2:=by simp[bu,rE,e]
theorem dE{p:κ×V}{r:List (κ×V)}{k:κ}(e:¬p.1=k):bu (p::r) k=bu r k:=by simp[bu,rE,e]
theorem j7(k:κ):∀a:List (κ×V),(a.any fun f=>decide (f.1=k))=(bu a k).isSome
 |[]=>rfl
 |p::r=>by
  rw[yZ];by_cases e:p.1=k
  ·simp only[ee e,zzr1 e,Bool.true_or,Option.isSome_some]
  ·rw[dE e,zzr0 e,Bool.false_or];exact j7 k r
theorem Bi(k j:κ)(y:V):∀a:List (κ×V),bu (a.map fun f=>if f.1=k then(f.1,y)else f) j=(bu a j).map fun x=>if j=k then y else x
 |[]=>rfl
 |p::r=>by
  have g:=Bi k j y r;rw[bF];by_cases h:p.1=k
  ·rw[if_pos h];by_cases e:p.1=j
   ·rw[ee (p:=(p.1,y)) e,ee e,uY,if_pos (e.symm.trans h)]
   ·rw[dE (p:=(p.1,y)) e,dE e,g]
  ·rw[if_neg h];by_cases e:p.1=j
   ·rw[ee (p:=p) e,ee e,uY,if_neg (fun z=>h (e.trans z))]
   ·rw[dE (p:=p) e,dE e,g]
theorem xo(k j:κ)(y:V):∀a:List (κ×V),bu a k=none->bu (a++[(k,y)]) j=if j=k then some y else bu a j
 |[],_=>by
  by_cases e:k=j
  ·rw[if_pos e.symm];exact ee (p:=(k,y)) e
  ·rw[if_neg (fun z=>e z.symm)];exact dE (p:=(k,y)) e
 |p::r,f=>by
  rw[List.cons_append];have g:¬p.1=k:=fun z=>by rw[ee z]at f;cases f
  rw[dE g]at f;have h:=xo k j y r f;by_cases e:p.1=j
  ·rw[ee e,ee e,if_neg (fun z=>g (e.trans z))]
  ·rw[dE e,dE e,h]
theorem jg(f:List (κ×V))(k j:κ)(y:V):bu (eG f k y) j=if j=k then some y else bu f j:=by
 unfold eG;by_cases a:(f.any fun g=>decide (g.1=k))=true
 ·rw[if_pos a,Bi];rw[j7]at a;by_cases e:j=k
  ·obtain⟨x,h⟩:=y2.mp a;rw[if_pos e,e,h,uY,if_pos rfl]
  ·rw[if_neg e];cases bu f j with
   |none=>rfl
   |some x=>rw[uY,if_neg e]
 ·rw[if_neg a];refine xo k j y f ?_;rw[j7]at a;cases q:bu f k with
  |none=>rfl
  |some x=>rw[q]at a;exact(a rfl).elim
theorem gI(a:List (κ×V))(k:κ)(v:V):(eG a k v).length<=a.length+1:=by
 unfold eG;split
 ·rw[ah];omega
 ·rw[aO,gC,List.length_nil];omega
theorem jp{a:List (κ×V)}{k:κ}(v:V)(h:bu a k=none):eG a k v=a++[(k,v)]:=by
 unfold eG;rw[j7,h];exact if_neg (by decide)
theorem lP.isSome_eq{o:Option V}{u:Option Value}(r:lP o u):o.isSome=u.isSome:=by
 cases o with
 |none=>cases u with
  |none=>rfl
  |some _=>exact(show False from r).elim
 |some _=>cases u with
  |none=>exact(show False from r).elim
  |some _=>rfl
theorem lP.getD{o:Option V}{u:Option Value}{d:V}{a:Value}(r:lP o u)(e:RelV d a):RelV (o.getD d) (u.getD a):=by
 cases o with
 |none=>cases u with
  |none=>exact e
  |some _=>exact(show False from r).elim
 |some _=>cases u with
  |none=>exact(show False from r).elim
  |some _=>exact r
theorem KV.val{a:List (κ×V)}{g:List (κ×Value)}(r:KV a g)(k:κ):lP (bu a k) (oN g k):=by
 unfold KV at r
 induction r with
 |nil=>exact sS
 |@cons p q m qs h t j =>
  obtain⟨i,l⟩:=h;by_cases e:p.1=k
  ·have f:q.1=k:=i.symm.trans e;have b:oN (q::qs) k=some q.2:=by simp[oN,rE,f]
   rw[ee e,b];exact l
  ·have f:¬q.1=k:=fun z=>e (i.trans z);have b:oN (q::qs) k=oN qs k:=by simp[oN,rE,f]
   rw[dE e,b];exact j
theorem KV.any{a:List (κ×V)}{f:List (κ×Value)}(r:KV a f)(k:κ):(a.any fun e=>decide (e.1=k))=f.any fun e=>decide (e.1=k):=by
 unfold KV at r
 induction r with
 |nil=>rfl
 |cons h t g=>rw[yZ,yZ,g,h.1]
theorem KV.repl{f:List (κ×V)}{i:List (κ×Value)}(r:KV f i)(k:κ){y:V}{u:Value}(j:RelV y u):
  KV (f.map fun a=>if a.1=k then(a.1,y)else a) (i.map fun a=>if a.1=k then(a.1,u)else a):=by
 unfold KV at r ⊢
 induction r with
 |nil=>exact .nil
 |@cons p q n qs h t l =>
  rw[bF,bF];refine .cons ?_ l;obtain⟨g,m⟩:=h;by_cases e:p.1=k
  ·rw[if_pos e,if_pos (g.symm.trans e)];exact⟨g,j⟩
  ·rw[if_neg e,if_neg (fun z=>e (g.trans z))];exact⟨g,m⟩
theorem KV.put{a:List (κ×V)}{f:List (κ×Value)}(r:KV a f)(k:κ){y:V}{u:Value}(g:RelV y u):KV (eG a k y) (stored f k u):=by
 unfold eG stored;rw[r.any k];by_cases e:(f.any fun h=>decide (h.1=k))=true
 ·rw[if_pos e,if_pos e];exact r.repl k g
 ·rw[if_neg e,if_neg e];exact d_ r ⟨rfl,g⟩
theorem KV.length{a:List (κ×V)}{e:List (κ×Value)}(r:KV a e):a.length=e.length:=Paired.length r
end
theorem qQ{P:bZ}{w:World}{k:ge}{u:Value}(r:RelV (kV k) u):(cI P w).is k u=true:=by
 cases k with
 |inl i=>obtain⟨t,e⟩:=(show ∃t,u=Value.int i t from r);subst e;exact BY P w i t
 |inr x=>obtain⟨t,e⟩:=(show ∃t,u=Value.str x t from r);subst e;exact BX P w x t
theorem Aq:∀{k:pJ}{u:Value},RelV (Lh k) u->jt k u=true
 |none,u,r=>by cases(show u=Value.none from r);rfl
 |some (.inl i),u,r=>by obtain⟨t,rfl⟩:=r;exact nG i t
 |some (.inr x),u,r=>by obtain⟨t,rfl⟩:=r;exact nF x t
abbrev KT(K:Za)(H:Hp):List (TK×V)->List (TK×Addr×Value)->Prop:=Paired fun p q=>p.1=q.1/\tG K H p.1 (.ref q.2.1)/\p.1.depth<=8/\RelV p.2 q.2.2
theorem KT.val{K:Za}{H:Hp}{a:List (TK×V)}{g:List (TK×Addr×Value)}(r:KT K H a g)(k:TK):lP (bu a k) ((atKey g k).map (·.2)):=by
 induction r with
 |nil=>exact sS
 |@cons p q m qs h t j =>
  obtain⟨i,_,_,l⟩:=h;by_cases e:p.1=k
  ·have f:q.1=k:=i.symm.trans e;have b:atKey (q::qs) k=some q.2:=by simp[atKey,rE,f]
   rw[ee e,b];exact l
  ·have f:¬q.1=k:=fun z=>e (i.trans z);have b:atKey (q::qs) k=atKey qs k:=by simp[atKey,rE,f]
   rw[dE e,b];exact j
theorem KT.repl{K:Za}{H:Hp}{a:List (TK×V)}{i:List (TK×Addr×Value)}(r:KT K H a i)(k:TK){y:V}{u:Value}(m:RelV y u):
  KT K H (a.map fun g=>if g.1=k then(g.1,y)else g) (i.map (putAt k u)):=by
 induction r with
 |nil=>exact .nil
 |@cons p q o qs h t n =>
  rw[bF,bF];refine .cons ?_ n;obtain⟨f,j,l⟩:=h;unfold putAt;by_cases e:p.1=k
  ·rw[if_pos e,if_pos (f.symm.trans e)];exact⟨f,j,l.1,m⟩
  ·rw[if_neg e,if_neg (fun z=>e (f.trans z))];exact⟨f,j,l⟩
theorem KT.put{K:Za}{H:Hp}{a:List (TK×V)}{f:List (TK×Addr×Value)}(r:KT K H a f)(k:TK){b:Addr}{y:V}{u:Value}(h:tG K H k (.ref b))(i:k.depth<=8)(g:RelV y u):
  KT K H (eG a k y) (storedH f k b u):=by
 have e:(a.any fun j=>decide (j.1=k))=(atKey f k).isSome:=by
  rw[j7,(r.val k).isSome_eq,Option.isSome_map]
 unfold eG storedH;rw[e];by_cases q:(atKey f k).isSome=true
 ·rw[if_pos q,if_pos q];exact r.repl k g
 ·rw[if_neg q,if_neg q];exact d_ r ⟨rfl,h,i,g⟩
theorem KT.keeps{K:Za}{H a:Hp}{kvs:List (TK×V)}{xs:List (TK×Addr×Value)}(r:KT K H kvs xs)(f:∀b e,H b=some (.tup e)->a b=some (.tup e)):KT K a kvs xs :=
 Paired.mapP r fun _ _ z=>⟨z.1,tG.keeps f 8 z.2.2.1 z.2.1,z.2.2⟩
section
variable{P:bZ}{w:World}{K:Za}{H:Hp}{h:Heap}{a:Addr}
theorem La{u:HO}(ok:nN P w K H h)(e:Rd H a u):cZ P w K H h a u:=e.ok ok
theorem qW{f:List (ge×V)}(ok:nN P w K H h)(e:Rd H a (.dK f)):f.length<=aj/\(a==iU)=false/\∃g,KV f g/\h.DictOf (cI P w) a g :=
 show cZ P w K H h a (.dK f)from La ok e
theorem MJ{f:List (ge×V)}(ok:nN P w K H h)(e:H a=some (.dK f)):f.length<=aj/\(a==iU)=false/\∃g,KV f g/\h.DictOf (cI P w) a g:=qW ok (.inl e)
theorem Ly(ok:nN P w K H h)(y:K.In h):∀(d:Nat) {k:TK}{v:V}{u:Value},k.depth<=d->tG K H k v->RelV v u->n_ h k u:=by
 have z:∀(d:Nat) (s:∀{k:TK}{v:V}{u:Value},k.depth<=d->tG K H k v->RelV v u->n_ h k u) (ks:List TK) (i:List V) (x:Zf),TK.depths ks<=d->TKCs K H ks i->bg i x->TAts h ks x:=by
  intro d s ks
  induction ks with
  |nil =>
   intro i x _ g r;have e:i=[]:=g;subst e;cases r
   rfl
  |cons k ks A =>
   intro i x j g r;obtain⟨v,B,rfl,m,C⟩:=g;cases r with
   |@cons _ u _ q I J =>
    have L:max k.depth (TK.depths ks)<=d:=j;exact⟨u,q,rfl,s (by omega) m I,A B q (by omega) C J⟩
 intro d
 induction d with
 |zero =>
  intro k v u j g r;cases k with
  |t l=>exact absurd j (by show ¬(TK.depths l+1<=0);omega)
  |k b =>
   have e:v=Lh b:=g;subst e;exact Aq r
 |succ d s =>
  intro k v u j g r;cases k with
  |k b =>
   have e:v=Lh b:=g;subst e;exact Aq r
  |t l =>
   obtain⟨b,D,rfl,E,M⟩:=g;cases(show u=Value.ref b from r);obtain⟨f,G,N,m,C,n,O⟩:∃f:List Value,bg D f/\IsTup h b f.toArray:=by
    rcases E with E|⟨o,f,n,Q,T,U,Y,r⟩
    ·obtain⟨_,f,G,p⟩:=(show cZ P w K H h b (.tup D)from ok b _ E);exact⟨f,G,p⟩
    ·exact⟨f.toList,r,o,y b o Q,T,n,by simpa using U⟩
   exact⟨b,N,f.toArray,n,rfl,m,C,O,by simpa using z d (fun m=>s m) l D f (by have:TK.depths l+1<=d+1:=j;omega) M G⟩
theorem An{k:TK}(ok:nN P w K H h)(f:K.In h)(e:tG K H k (.ref a))(g:k.depth<=8):(fx P w).is h k a:=⟨Ly ok f 8 g e rfl,g⟩
theorem tw{f:List (TK×V)}(ok:nN P w K H h)(j:K.In h)(e:Rd H a (.dT f)):f.length<=aj/\(a==iU)=false /\
  ∃g,KT K H f g/\h.DictOfH (fx P w) a g:=by
 obtain⟨z,y,g,r,o,k,n,s,u,v,A,B⟩:=(show cZ P w K H h a (.dT f)from La ok e);refine⟨z,y,g,r,o,k,n,s,u,v,A,fun x hx=>?_,B⟩;have all:∀{l:List (TK×V)}{m:List (TK×Addr×Value)},KT K H l m->∀x∈m,(fx P w).is h x.1 x.2.1:=by
  intro l m q
  induction q with
  |nil=>intro x hx;exact nomatch hx
  |@cons p q D qs i t C =>
   intro x hx;rcases cn.mp hx with e|hx
   ·subst e;exact An ok j (by rw[<-i.1];exact i.2.1) (by rw[<-i.1];exact i.2.2.1)
   ·exact C x hx
 exact all r x hx
theorem I0{f:List (TK×V)}(ok:nN P w K H h)(g:K.In h)(e:H a=some (.dT f)):f.length<=aj/\(a==iU)=false /\
  ∃i,KT K H f i/\h.DictOfH (fx P w) a i:=tw ok g (.inl e)
end
mutual
def n6(K:Za)(H:Hp):TK->V->Prop
 |.k a,v=>v=Lh a
 |.t l,v=>∃b xs,v=.ref b/\bT K H b xs/\TKIns K H l xs
def TKIns(K:Za)(H:Hp):List TK->List V->Prop
 |[],vs=>vs=[]
 |k::r,vs=>∃v us,vs=v::us/\n6 K H k v/\TKIns K H r us
end
theorem eR.isIn{K:Za}{H:Hp}:∀(d:Nat) {k:TK}{v:V},k.depth<=d->eR H k v->n6 K H k v:=by
 have j:∀(d:Nat) (h:∀{k:TK}{v:V},k.depth<=d->eR H k v->n6 K H k v) (e:List TK) (i:List V),TK.depths e<=d->TKAts H e i->TKIns K H e i:=by
  intro d h e
  induction e with
  |nil=>intro i _ f;exact f
  |cons x e m =>
   intro i g f;obtain⟨v,p,rfl,n,o⟩:=f;have q:max x.depth (TK.depths e)<=d:=g;exact⟨v,p,rfl,h (by omega) n,m p (by omega) o⟩
 intro d
 induction d with
 |zero =>
  intro k v g f;cases k with
  |t l=>exact absurd g (by show ¬(TK.depths l+1<=0);omega)
  |k a=>exact f
 |succ d h =>
  intro k v g f;cases k with
  |k a=>exact f
  |t l =>
   obtain⟨b,e,rfl,r,s⟩:=f;exact⟨b,e,rfl,bT.of r,j d (fun u=>h u) l e (by have:TK.depths l+1<=d+1:=g;omega) s⟩
theorem JM{X:Cx}{y:Zd}{σ:St}{H:Hp}{s:Shared}(I:Inv X y σ H s):∀(d:Nat) {k:TK}{v:V}{u:Value},k.depth<=d->n6 X.K H k v->RelV v u->n_ s.heap k u:=by
 have p:∀(d:Nat) (m:∀{k:TK}{v:V}{u:Value},k.depth<=d->n6 X.K H k v->RelV v u->n_ s.heap k u) (ks:List TK) (f:List V) (o:Zf),TK.depths ks<=d->TKIns X.K H ks f->bg f o->TAts s.heap ks o:=by
  intro d m ks
  induction ks with
  |nil =>
   intro f o _ a r;have e:f=[]:=a;subst e;cases r
   rfl
  |cons k ks q =>
   intro f o g a r;obtain⟨v,w,rfl,h,x⟩:=a;cases r with
   |@cons _ u _ i z A =>
    have B:max k.depth (TK.depths ks)<=d:=g;exact⟨u,i,rfl,m (by omega) h z,q w i (by omega) x A⟩
 intro d
 induction d with
 |zero =>
  intro k v u g a r;cases k with
  |t l=>exact absurd g (by show ¬(TK.depths l+1<=0);omega)
  |k b =>
   have e:v=Lh b:=a;subst e;exact Aq r
 |succ d m =>
  intro k v u g a r;cases k with
  |k b =>
   have e:v=Lh b:=a;subst e;exact Aq r
  |t l =>
   obtain⟨b,C,rfl,D,E⟩:=a;cases(show u=Value.ref b from r);obtain⟨j,G,⟨J,h,x,n,L⟩,_⟩:=I.tuple D;exact⟨b,J,j.toArray,n,rfl,h,x,L,by simpa using p d (fun h=>m h) l C j (by have:TK.depths l+1<=d+1:=g;omega) E G⟩
theorem vQ{X:Cx}{f:Zd}{σ:St}{H:Hp}{s:Shared}{k:TK}{b:Addr}(I:Inv X f σ H s)(e:n6 X.K H k (.ref b))(a:k.depth<=8):(fx X.prog X.w).is s.heap k b:=⟨JM I 8 a e rfl,a⟩
theorem gF{P:bZ}{w:World}{A:Around}(a:A.units+16<cLine):(fx P w).room A.in1:=by
 show A.units+1+8<cLine;omega
def lS(K:Za)(H:Hp)(a:Addr)(y:V)(r:Option V):Prop :=
 (∃kvs k,Rd H a (.dK kvs)/\y=kV k/\r=bu kvs k)∨∃kvs k b,Rd H a (.dT kvs)/\y=.ref b/\n6 K H k (.ref b)/\k.depth<=8/\r=bu kvs k
def MS(H:Hp)(a:Addr)(y v:V)(H':Hp):Prop :=
 (∃kvs k,H a=some (.dK kvs)/\y=kV k/\kvs.length<aj/\H'=upd H a (.dK (eG kvs k v))) ∨
 ∃kvs k b,H a=some (.dT kvs)/\y=.ref b/\eR H k (.ref b)/\k.depth<=8/\kvs.length<aj/\H'=upd H a (.dT (eG kvs k v))
section
variable{X:Cx}{J5:Zd}{σ:St}{H:Hp}{s:Shared}{a:Addr}{y v:V}{u r:Value}{o:Option V}{A:Around}{E:Zc}
theorem Inv.big(I:Inv X J5 σ H s):iU<s.heap.objs.size:=by
 have h:ca<s.heap.objs.size:=(I.mod.glob.keeps I.bk).lt;exact Nat.lt_trans (by decide) h
theorem GI{Q:Zc}(D:A.units+16<cLine)(I:Inv X J5 σ H s)(g:lS X.K H a y (some v))(B:RelV y u)(h:∀j C,Inv X J5 σ H C->RelV v j->Q j C):
  wpAny (model X.prog X.w) A (oP (.ref a) u) Q E s:=by
 rcases g with⟨m,k,e,n,l⟩|⟨m,k,b,e,n,G,J,l⟩
 ·subst n;obtain⟨z,L,M,f,q⟩:=qW I.hok e;obtain⟨j,t,i⟩:=lP.some_of (v:=v) (o:=oN M k) (by rw[l];exact f.val k);exact wpAny_getItem_of (qQ B) q.mapOf t (h j _ (I.tok _) i)
 ·subst n;cases(show u=Value.ref b from B);obtain⟨z,L,N,f,q⟩:=tw I.hok I.kIn e;obtain⟨j,t,i⟩:=lP.some_of (v:=v) (o:=(atKey N k).map (·.2)) (by rw[l];exact f.val k);obtain⟨p,O,x⟩:=kH.mp t;refine wpAny_getItem_heap (gF D) (vQ I G J) q O ?_;rw[x];exact h j _ (I.tok _) i
theorem d_in{Q:Zc}(t:A.units+16<cLine)(I:Inv X J5 σ H s)(g:lS X.K H a y o)(n:RelV y u)(h:∀p,Inv X J5 σ H p->Q (.bool o.isSome) p):
  wpAny (model X.prog X.w) A (fO .In u (.ref a)) Q E s:=by
 rcases g with⟨i,k,e,j,l⟩|⟨i,k,b,e,j,x,B,l⟩
 ·subst j;obtain⟨z,hd,C,f,m⟩:=qW I.hok e;refine wpAny_in_of (qQ n) hd m.mapOf ?_;rw[<-(f.val k).isSome_eq,<-l];exact h _ (I.tok _)
 ·subst j;cases(show u=Value.ref b from n);obtain⟨z,hd,D,f,m⟩:=tw I.hok I.kIn e;refine wpAny_in_heap (gF t) (vQ I x B) hd m ?_;have q:=(f.val k).isSome_eq;rw[Option.isSome_map]at q;rw[<-q,<-l];exact h _ (I.tok _)
theorem KM{Q:Zc}(t:A.units+16<cLine)(I:Inv X J5 σ H s)(g:lS X.K H a y o)(n:RelV y u)(h:∀p,Inv X J5 σ H p->Q (.bool (!o.isSome)) p):
  wpAny (model X.prog X.w) A (fO .NotIn u (.ref a)) Q E s:=by
 rcases g with⟨i,k,e,j,l⟩|⟨i,k,b,e,j,x,B,l⟩
 ·subst j;obtain⟨z,hd,C,f,m⟩:=qW I.hok e;refine wpAny_notIn_of (qQ n) hd m.mapOf ?_;rw[<-(f.val k).isSome_eq,<-l];exact h _ (I.tok _)
 ·subst j;cases(show u=Value.ref b from n);obtain⟨z,hd,D,f,m⟩:=tw I.hok I.kIn e;refine wpAny_notIn_heap (gF t) (vQ I x B) hd m ?_;have q:=(f.val k).isSome_eq;rw[Option.isSome_map]at q;rw[<-q,<-l];exact h _ (I.tok _)
theorem ux{f:Heap}{g:Nat}{ob:HO}(I:Inv X J5 σ H s)(h:MP (H a))(i:iT a s.heap f)(j:∃q,f.get? a=some q)(new:cZ X.prog X.w X.K (upd H a ob) f a ob):
  Inv X J5 σ (upd H a ob) { s with heap:=f,toks:=g } :=
 I.write (x:=a) (e:=a) h (.inl rfl) (fun b q k z=>(i.2 b k).trans z) j new
theorem Ja{P:bZ}{w:World}{K:Za}{i:Hp}{h:Heap}{e:List (ge×V)}{f:List (ge×Value)}(z:e.length<=aj)(j:(a==iU)=false)(g:KV e f)(k:h.DictOf (cI P w) a f):
  cZ P w K i h a (.dK e):=⟨z,j,f,g,k⟩
theorem GH{J:Hp}{Q:Unit->Shared->Prop}(Y:A.units+16<cLine)(I:Inv X J5 σ H s)(g:MS H a y v J)(L:RelV y u)(M:RelV v r)(h:∀N,Inv X J5 σ J N->Q () N):
  wpAny (model X.prog X.w) A (setItem (.ref a) u r) Q E s:=by
 rcases g with⟨f,k,e,p,l,t⟩|⟨f,k,b,e,p,O,m,l,t⟩
 ·subst p t;obtain⟨z,x,vs,i,B⟩:=MJ I.hok e;have C:vs.length<=aj:=by rw[<-i.length];exact z
  have D:(eG f k v).length<=aj:=by have:=gI f k v;omega
  refine wpAny_setItem_pairs (hsz:=C) (qQ L) B fun T j G=>h _ ?_;have he:∃q,T.get? a=some q:=let⟨q,_,_,n,_⟩:=j;⟨q,n⟩;exact ux I (by rw[e];exact sS) G he (Ja D x (i.put k M) j)
 ·subst p t;cases(show u=Value.ref b from L);obtain⟨z,x,xs,i,B⟩:=I0 I.hok I.kIn e;have C:xs.length<=aj:=by rw[<-Paired.length i];exact z
  have D:(eG f k v).length<=aj:=by have:=gI f k v;omega
  refine wpAny_setItem_heap (hsz:=C) (gF Y) (An I.hok I.kIn (eR.c 8 m O) m) B fun T j G=>h _ ?_;obtain⟨q,es,ep,n,h2,h3,h4,_,h5⟩:=j;refine ux I (by rw[e];exact sS) G ⟨q,n⟩ ⟨D,x,_,(i.put k (eR.c 8 m O) m M).keeps fun c ys U=>?_,q,es,ep,n,h2,h3,h4,h5⟩;rw[ai (IB U e (fun z=>nomatch z))];exact U
theorem DM{b:Addr}{f:List (TK×V)}{k:TK}{Q:Unit->Shared->Prop}(x:A.units+16<cLine)(I:Inv X J5 σ H s)(e:H a=some (.dT f))(j:tG X.K H k (.ref b))(m:k.depth<=8)(l:f.length<aj)(B:RelV (.ref b) u)(C:RelV v r)(h:∀n,Inv X J5 σ (upd H a (.dT (eG f k v))) n->Q () n):
  wpAny (model X.prog X.w) A (setItem (.ref a) u r) Q E s:=by
 cases(show u=Value.ref b from B);obtain⟨z,D,G,g,J⟩:=I0 I.hok I.kIn e;have L:G.length<=aj:=by rw[<-Paired.length g];exact z
 have M:(eG f k v).length<=aj:=by have:=gI f k v;omega
 refine wpAny_setItem_heap (hsz:=L) (gF x) (An I.hok I.kIn (j) m) J fun h' i N=>h _ ?_;obtain⟨q,O,T,p,U,Y,h4,_,h5⟩:=i;refine ux I (by rw[e];exact sS) N ⟨q,p⟩ ⟨M,D,_,(g.put k (j) m C).keeps fun c ys t=>?_,q,O,T,p,U,Y,h4,h5⟩;rw[ai (IB t e (fun z=>nomatch z))];exact t
end
def GX(i:Expr):Prop:=∀ov iv,y1 i false ov iv=operate [ov,iv] (oP ov iv)
theorem JS{a:bZ}{w:World}{A:Around}{E:Zc}{s:Shared}{k:Env}{value slice:Expr}{p:Pos}{T id:String}{Q:Zc}
  (t:u3 (.type T) "__getitem__"=pure (some (.builtin id))) (u:GX slice)
  (h:wpAny (model a w) A (eval value k) (fun o g=>wpAny (model a w) A (eval slice k) (fun i e=>e.TypeIs o T/\wpAny (model a w) A (oP o i) Q E e) E g) E s) :
  wpAny (model a w) A (eval (.Subscript value slice p) k) Q E s:=by
 refine Subscript_ (pU h (fun o g m=>pU m (fun i e f=>?_) fun _ _ x=>x) fun _ _ x=>x);obtain⟨q,f⟩:=f;unfold subscriptTail;refine am ?_;rw[getitemInPython_of_ne q.not_modules];refine am (Fv q t ?_);have l:wpAny (model a w) A (y1 slice false o i) (fun r j=>wpAny (model a w) A (letTemporaryGo value o r >>= fun _=>pure r) Q E j) E e:=by
  rw[u o i];exact wpAny_operating (pU f (fun r j n=>am (wpAny_letTemporaryGo (aR n))) fun _ _ x=>x)
 first
  |exact aR (am l)
  |exact am (aR (am l))
  |exact am l
theorem Cj{X:Cx}{i:Zd}{σ:St}{H:Hp}{s:Shared}{a:Addr}{y:V}{o:Option V}(I:Inv X i σ H s)(g:lS X.K H a y o):s.TypeIs (.ref a) "dict":=by
 rcases g with⟨f,k,e,_,_⟩|⟨f,k,b,e,_,_,_⟩
 ·obtain⟨_,_,j,_,h⟩:=qW I.hok e;exact h.typeIs
 ·obtain⟨_,_,l,_,h⟩:=tw I.hok I.kIn e;exact h.typeIs
def mw(K:Za)(td ty:TE):TE:=fun σ H Q=>td σ H fun x H1=>ty σ H1 fun y H2=>∃a v,x=.ref a/\lS K H2 a y (some v)/\Q v H2
def FL(K:Za)(ty td:TE):TE:=fun σ H Q=>ty σ H fun y H1=>td σ H1 fun x H2=>∃a o,x=.ref a/\lS K H2 a y o/\Q (.bl o.isSome) H2
def iX(K:Za)(ty td:TE):TE:=fun σ H Q=>ty σ H fun y H1=>td σ H1 fun x H2=>∃a o,x=.ref a/\lS K H2 a y o/\Q (.bl (!o.isSome)) H2
def lH(td ty tv:TE):TS:=fun D σ H=>tv σ H fun v H1=>td σ H1 fun x H2=>ty σ H2 fun y H3=>∃a H4,x=.ref a/\MS H3 a y v H4/\D.nx σ H4
section
variable{X:Cx}{o i e value:Expr}{pos pos' J8:Pos}{td ty tv:TE}
theorem kZ(m:X.A.units+16<cLine)(n:PE X o td)(p:PE X i ty)(q:GX i):PE X (.Subscript o i pos) (mw X.K td ty):=by
 intro k s σ H Q I h;refine JS PySem.F.slot_dict_getitem.lookup q (cS (n k s σ H _ I h) fun u r ⟨x,t,w,z,B⟩=>cS (p k r σ t _ w B) fun J L f=>?_);obtain⟨y,C,l,D,a,v,ex,g,E⟩:=f;subst ex;obtain rfl:u=Value.ref a:=z;exact⟨Cj l g,GI m l g D fun M N G j=>⟨v,C,G,j,E⟩⟩
theorem vG(k:X.A.units+16<cLine)(l:PE X i ty)(m:PE X o td):PC X .In i o (FL X.K ty td):=by
 intro j s σ H Q I h;refine cS (l j s σ H _ I h) fun E n ⟨y,p,q,r,t⟩=>cS (m j n σ p _ q t) fun u G f=>?_;obtain⟨x,v,w,z,a,B,ex,g,C⟩:=f;subst ex;obtain rfl:u=Value.ref a:=z;exact d_in k w g r fun J D=>⟨.bl B.isSome,v,D,rfl,C⟩
theorem gH(k:X.A.units+16<cLine)(l:PE X i ty)(m:PE X o td):PC X .NotIn i o (iX X.K ty td):=by
 intro j s σ H Q I h;refine cS (l j s σ H _ I h) fun E n ⟨y,p,q,r,t⟩=>cS (m j n σ p _ q t) fun u G f=>?_;obtain⟨x,v,w,z,a,B,ex,g,C⟩:=f;subst ex;obtain rfl:u=Value.ref a:=z;exact KM k w g r fun J D=>⟨.bl (!B.isSome),v,D,rfl,C⟩
theorem gV(k:X.A.units+16<cLine)(l:PE X o td)(m:PE X i ty)(n:PE X value tv)(p:sV value (some (.Subscript o i pos')) pos.line X.env=pure false):
  PS X (.Assign [.Subscript o i pos'] value pos) (lH td ty tv):=by
 intro f s σ H D I h;refine wpAny_Assign_Subscript (cS (n f s σ H _ I h) fun r q ⟨v,t,w,z,B⟩=>cS (l f q σ t _ w B) fun u C ⟨x,E,G,J,L⟩=>cS (m f C σ E _ G L) fun U Y j=>?_) p;obtain⟨y,H3,M,N,a,O,ex,g,Q⟩:=j;subst ex;obtain rfl:u=Value.ref a:=J;exact GH k M g N z fun s4 T=>⟨σ,O,T,Q⟩
end
theorem Jb{P:bZ}{w:World}{K:Za}{H:Hp}(h:Heap)(a:iU<h.objs.size):cZ P w K H (h.push { cls:=.type "dict",data:=.dict #[] }) h.objs.size (.dK []) :=
 ⟨cL _,beq_eq_false_iff_ne.mpr (b_ (cX a)),[],.nil,Heap.DictOf.new h⟩
theorem I_{P:bZ}{w:World}{K:Za}{H:Hp}(h:Heap)(a:iU<h.objs.size):cZ P w K H (h.push { cls:=.type "dict",data:=.dict #[] }) h.objs.size (.dT []) :=
 ⟨cL _,beq_eq_false_iff_ne.mpr (b_ (cX a)),[],.nil,_,#[],0,dh _ rfl,⟨rfl,rfl,rfl⟩,rfl,rfl,ml⟩
def vo:TE:=fun _ H Q=>∀p,H p=none->Q (.ref p) (upd H p (.dK []))
def pb:TE:=fun _ H Q=>∀p,H p=none->Q (.ref p) (upd H p (.dT []))
section
variable{X:Cx}{pos:Pos}
theorem qH:PE X (.Dict [] [] pos) vo:=fun e s σ H Q I h =>
 wpAny_Dict_empty ⟨.ref s.heap.objs.size,_,I.laid (a:=s.heap.objs.size) (o:=.dK []) (t':=s.toks) (fun _ _ q=>a_ _ q) (aB _) (Jb s.heap I.big),rfl,h _ (I.hok.fresh (aB _))⟩
theorem km:PE X (.Dict [] [] pos) pb:=fun e s σ H Q I h =>
 wpAny_Dict_empty ⟨.ref s.heap.objs.size,_,I.laid (a:=s.heap.objs.size) (o:=.dT []) (t':=s.toks) (fun _ _ q=>a_ _ q) (aB _) (I_ s.heap I.big),rfl,h _ (I.hok.fresh (aB _))⟩
end
def jV(kvs more:List (ge×V)):List (ge×V):=more.foldl (fun acc kv=>eG acc kv.1 kv.2) kvs
theorem KV.merge:∀{more:List (ge×V)}{g:List (ge×Value)}{a:List (ge×V)}{f:List (ge×Value)},KV more g->KV a f->KV (jV a more) (merged f g):=by
 intro more g a f r;unfold KV at r
 induction r generalizing a f with
 |nil=>intro q;exact q
 |@cons p q k qs h t i =>
  intro j;have e:KV (eG a p.1 p.2) (stored f q.1 q.2):=by
   have:=j.put p.1 h.2;rw[<-h.1];exact this
  exact i e
theorem oB:∀(more a:List (ge×V)),(jV a more).length<=a.length+more.length
 |[],a=>by show a.length<=a.length+0;omega
 |p::r,a=>by
  have e:=oB r (eG a p.1 p.2);have f:=gI a p.1 p.2;show(jV (eG a p.1 p.2) r).length<=_;rw[gC];omega
structure M1(X:Cx)(o:Expr)(m:Str)(J7:Pos)(e:Expr)(J6:Pos):Prop where
 base:xi o m X.env (eval o X.env)=eval o X.env
 few:((backTo J6 (aK [e] X.env)).all (fun x=>!x.1) && (pP J6 (pO [] X.env)).all (fun x=>x.1.isSome)
  && decide (([e]:List Expr).length+([]:List rG).length+(if([]:List rG).isEmpty then 0 else 1)<30))=true
 line:(J7.endLine==J6.line)=true
 trees:backTo J6 (aK [e] X.env)=[(false,eval e X.env)]
structure M2(X:Cx)(o:Expr)(m:Str)(J7:Pos)(e f:Expr)(J6:Pos):Prop where
 base:xi o m X.env (eval o X.env)=eval o X.env
 few:((backTo J6 (aK [e,f] X.env)).all (fun x=>!x.1) && (pP J6 (pO [] X.env)).all (fun x=>x.1.isSome)
  && decide (([e,f]:List Expr).length+([]:List rG).length+(if([]:List rG).isEmpty then 0 else 1)<30))=true
 line:(J7.endLine==J6.line)=true
 trees:backTo J6 (aK [e,f] X.env)=[(false,eval e X.env),(false,eval f X.env)]
def IsD(H:Hp)(a:Addr):Prop:=(∃kvs,Rd H a (.dK kvs))∨∃kvs,Rd H a (.dT kvs)
theorem IN{X:Cx}{l:Zd}{σ:St}{H:Hp}{s:Shared}{a:Addr}(I:Inv X l σ H s)(d:IsD H a):
  s.TypeIs (.ref a) "dict"/\(∀b,Value.ref a=.ref b->∃f,s.heap.get? b=some f/\f.dict=none)/\(a==iU)=false:=by
 rcases d with⟨h,e⟩|⟨h,e⟩
 ·obtain⟨_,i,m,_,g⟩:=qW I.hok e;refine⟨g.typeIs,fun b q=>?_,i⟩;cases q;obtain⟨f,_,_,j,k,_⟩:=g;exact⟨f,j,k.2.1⟩
 ·obtain⟨_,i,n,_,g⟩:=tw I.hok I.kIn e;refine⟨g.typeIs,fun b q=>?_,i⟩;cases q;obtain⟨f,_,_,j,k,_⟩:=g;exact⟨f,j,k.2.1⟩
section
variable{X:Cx}{J5:Zd}{σ:St}{H:Hp}{s:Shared}{a:Addr}{y d:V}{u r:Value}{o:Option V}{A:Around}{E:Zc}
theorem LY{Q:Zc}(v:A.units+16<cLine)(I:Inv X J5 σ H s)(g:lS X.K H a y o)(p:RelV y u)(h:∀q t,Inv X J5 σ H t->RelV (o.getD .non) q->Q q t):
  wpAny (model X.prog X.w) A (call (.builtin "dict.get") [.ref a,u]) Q E s:=by
 rcases g with⟨j,k,e,m,l⟩|⟨j,k,b,e,m,x,B,l⟩
 ·subst m;obtain⟨z,n,D,f,i⟩:=qW I.hok e;refine uX rD i.typeIs yY (PySem.F.args_dict_get_2 _ _) (meets_dict_get (cI X.prog X.w) a (qQ p) n) ⟨_,i.mapOf,h _ _ (I.tok _) ?_⟩;rw[l];exact(f.val k).getD rfl
 ·subst m;cases(show u=Value.ref b from p);obtain⟨z,n,C,f,i⟩:=tw I.hok I.kIn e;refine uX rD i.typeIs yY (PySem.F.args_dict_get_2 _ _) (meetsH_dict_get (fx X.prog X.w) a b n) ⟨gF v,k,C,vQ I x B,i,h _ _ (I.tok _) ?_⟩;rw[l];exact(f.val k).getD rfl
theorem LX{Q:Zc}(x:A.units+16<cLine)(I:Inv X J5 σ H s)(g:lS X.K H a y o)(p:RelV y u)(q:RelV d r)(h:∀t v,Inv X J5 σ H v->RelV (o.getD d) t->Q t v):
  wpAny (model X.prog X.w) A (call (.builtin "dict.get") [.ref a,u,r]) Q E s:=by
 rcases g with⟨j,k,e,m,l⟩|⟨j,k,b,e,m,B,C,l⟩
 ·subst m;obtain⟨z,n,G,f,i⟩:=qW I.hok e;refine uX rD i.typeIs yY (PySem.F.args_dict_get_3 _ _ _) (meets_dict_get_default (cI X.prog X.w) a (qQ p) n r) ⟨_,i.mapOf,h _ _ (I.tok _) ?_⟩;rw[l];exact(f.val k).getD q
 ·subst m;cases(show u=Value.ref b from p);obtain⟨z,n,D,f,i⟩:=tw I.hok I.kIn e;refine uX rD i.typeIs yY (PySem.F.args_dict_get_3 _ _ _) (meetsH_dict_get_default (fx X.prog X.w) a b n r) ⟨gF x,k,D,vQ I B C,i,h _ _ (I.tok _) ?_⟩;rw[l];exact(f.val k).getD q
end
def r8(K:Za)(td ty:TE):TE:=fun σ H Q=>td σ H fun x H1=>∃a,x=.ref a/\IsD H1 a/\ty σ H1 fun y H2=>∃o,lS K H2 a y o/\Q (o.getD .non) H2
def zQ(K:Za)(td ty tx:TE):TE:=fun σ H Q=>td σ H fun x H1=>∃a,x=.ref a/\IsD H1 a/\ty σ H1 fun y H2=>tx σ H2 fun z H3=>∃o,lS K H3 a y o/\Q (o.getD z) H3
section
variable{X:Cx}{o e f:Expr}{J7 J6:Pos}{td ty tx:TE}
theorem ko(n:X.A.units+16<cLine)(p:PE X o td)(q:PE X e ty)(m:M1 X o "get" J7 e J6):PE X (.Call (.Attribute o "get" J7) [e] [] J6) (r8 X.K td ty):=by
 intro k s σ H Q I h;refine wpAny_Call_method m.base m.few m.line PySem.F.plainAttrs_dict rD PySem.F.type_dict_get (cS (p k s σ H _ I h) fun u r i=>?_);obtain⟨x,t,l,v,a,ex,d,w⟩:=i;subst ex;obtain rfl:u=Value.ref a:=v;obtain⟨z,B,_⟩:=IN l d;refine⟨z,B,?_⟩;rw[m.trees];refine y0 rfl (Calls.evalArgs_plain (A_ (cS (q k r σ t _ l w) fun L M ⟨y,C,D,E,N,g,G⟩=>Eg ?_)));exact LY n D g E fun O T J j=>⟨_,C,J,j,G⟩
theorem vE(n:X.A.units+16<cLine)(p:PE X o td)(q:PE X e ty)(r:PE X f tx)(m:M2 X o "get" J7 e f J6):PE X (.Call (.Attribute o "get" J7) [e,f] [] J6) (zQ X.K td ty tx):=by
 intro i s σ H Q I h;refine wpAny_Call_method m.base m.few m.line PySem.F.plainAttrs_dict rD PySem.F.type_dict_get (cS (p i s σ H _ I h) fun u t j=>?_);obtain⟨x,v,l,w,a,ex,d,B⟩:=j;subst ex;obtain rfl:u=Value.ref a:=w;obtain⟨C,D,_⟩:=IN l d;refine⟨C,D,?_⟩;rw[m.trees];refine y0 rfl (Calls.evalArgs_plain (A_ (cS (q i t σ v _ l B) fun iv E ⟨y,G,J,L,M⟩ =>
  A_ (cS (r i E σ G _ J M) fun fv s3 ⟨z,N,O,T,ov,g,U⟩=>Eg ?_))))
 exact LX n O g L T fun w' s4 Y k=>⟨_,N,Y,k,U⟩
end
end L2
namespace Att
open PySem PySem.W PySem.Calls PyProof.Rows
theorem ints_of_wellAll{P:Params}{h:Heap}:∀(e:List Int) (vs:Zf),WellAll P h vs (e.map WData.int)->uW vs e:=by
 intro e
 induction e with
 |nil =>
  intro vs w;rw[yX]at w;cases w;exact .nil
 |cons n e f =>
  intro vs w;rw[bF]at w;cases w with
  |cons a b =>
   cases a;exact .cons _ _ (f _ b)
theorem script_of{l:OpenLaw}{n:Nat}(u:l.most=some n){P:Params}{h:Heap}{args:List WData}{f:Zf}
  (g:l.row.toRowW.claim.pre args=true) (o:WellAll P h f args) :
  ∃a s e,f=[Value.ref a]/\args=[WData.list (e.map WData.int)]/\h.get? a=some { cls:=.type "list",data:=.seq s.toArray }/\uW s e/\e.length<=n:=by
 have p:WShape.hasAll [] args [.list .int]=true:=(pre_splitW g).1;have t:l.pre.holds [] { args:=args }=true:=(pre_splitW g).2;obtain⟨d,r,rfl,v,w⟩:=hasAllW_cons p;obtain rfl:=hasAllW_nil w;obtain⟨C,rfl,x⟩:=hasW_list v;obtain⟨e,rfl⟩:=items_int x;have i:e.length<=n:=by
  unfold OpenLaw.pre at t;have k:(WTm.not (.lt (.lit (.int (n:Int))) (.len (.arg 0)))).holds [] { args:=[.list (e.map .int)] }=true:=by
   have k:=(holds_andW t).1;rw[u]at k;exact k
  have m:=condW_of k (w_not (w_lt w_lit (w_len_list (w_arg rfl))));rw[ah]at m;refine Nat.le_of_not_lt fun q=>?_;have y:(n:Int)<((e.length:Nat):Int):=by omega
  first
   | (rw[zzr1 y]at m;exact absurd m (by decide))
   | (simp at m;omega)
 cases o with
 |cons z A =>
  cases A;cases z with
  |list B j=>exact⟨_,_,e,rfl,rfl,B,ints_of_wellAll e _ j,i⟩
theorem post_true(l:OpenLaw)(args:List WData):l.row.toRowW.claim.post args (.bool true) args=true :=
 postW_of (r:=l.row.toRowW) (X:=(true==true))
  (show WShape.has [] (.bool true) .bool=true by first|rfl|decide|simp[WShape.has,WShape.arms,WShape.armsAll])
  (show(WTm.eq .res (.lit (.bool true))).value [] { args:=args,res:=some (.bool true),after:=args }=some (.bool (true==true))from w_eq_bool (w_res rfl) w_lit) rfl
theorem attach_call{l:OpenLaw}{n:Nat}{q:bZ}{loose:Zb}{C:(Str->Option Value)->Heap->Prop}{D:World->Heap->Prop}{d:DefRec}
  (J:l.most=some n) (v:d.params.defaults=[])
  (call:∀(w:World) (g e:Shared) (p x:Str->Option Value) (i:Addr) (o:Obj) (y s doc:Value) (a:Addr) (h:Zf) (t:List Int),
   Ground q loose [] C w g p x e.heap->D w e.heap ->
   e.heap.get? i=some o->o.data=.func (docDef d.name d.params d.body d.scope y s doc)->e.heap.CodeRec s d.name->p d.name=some (.ref i) ->
   e.heap.get? a=some { cls:=.type "list",data:=.seq h.toArray }->uW h t->t.length<=n->e.gens=#[] ->
   zzl77 (model l.prog w) mh (.call (.ref i) ⟨[.ref a],[]⟩) (fun r u=>r=.ok (.ret (.bool true))/\OldK e.heap u.heap/\u.os=e.os/\pS u.gens) e) :
  WalkO q loose C D l.row.toRowW d [] (fun f h=>PySem.call f h):=by
 intro w g e p x G Y i o y s doc L kV M N z E A O args H as j I Q B T;obtain rfl:L=.none:=Dflts.none E v;obtain rfl:kV=.none:=Dflts.noKw E;obtain⟨a,h,t,rfl,rfl,k,hints,m⟩:=script_of J j B;refine enter_call (Ef (call w g e p x i o y s doc a h t G Y M (fd_plain N) z A k hints m O) fun r u U=>?_);obtain⟨rfl,h2,h3,h4⟩:=U;exact⟨.inl ⟨.bool true,.bool true,[],rfl,fun _=>rfl,.bool true,post_true l _,fun _=>⟨List.Pairwise.nil,fun _ hm=>(nomatch hm)⟩⟩,h2,h3,h4⟩
end Att
namespace L2
open PySem PySem.Spec PyProof.Rows
theorem xn:∀{a:Zf}{e:List Int},uW a e->bg (e.map V.int) a
 |_,_,.nil=>.nil
 |_,_,.cons n t h=>.cons ⟨t,rfl⟩ (xn h)
def K1(H:Hp):Prop:=∀b,H b=none∨∃o xs,H b=some (.frz o (.lst xs))
theorem IH{P:bZ}{w:World}{K:Za}{A Q:Str->Option Value}{CX:Hk}{k:Nat}{T a:Addr}{fd:lE}{x:Str}{sp:Sp}{f:Shared}{t:Zf}{B:List Int}
  (KX:K.In f.heap) (C:f.heap.Ns ca A) (i:f.heap.Ns builtinsNs Q) (U:∀x:Str,x≠"__name__"->Q x=lV x) (D:f.heap.NoLimit) (hg:f.gens=#[])
  (O:f.heap.get? a=some { cls:=.type "list",data:=.seq t.toArray }) (hi:uW t B) (hl:B.length<=aj) (hr:fM k mh)
  (F:∀base:Heap,K.In base->base.Ns ca A->mU P w K A base CX k T fd [x] sp) (y:∀(s:Shared) (u:Value),uz s fd ⟨[u],[]⟩ [(x,u)])
  (Y:∀H:Hp,K1 H->ay K H a (B.map V.int)->sp [.ref a] H (fun v _=>v=.bl true) fun _ _ _=>False)
  (al:∀H e j,CX [] H f (fun _ _ _=>False) e j->False) :
  zzl77 (model P w) mh (.call (.ref T) ⟨[.ref a],[]⟩) (fun r j=>r=.ok (.ret (.bool true))/\OldK f.heap j.heap/\j.os=f.os/\pS j.gens) f:=by
 have rv:=xn hi;have E:=hi.length;have p:∀H:Hp,K1 H->ay K H a (B.map V.int)->nN P w K H f.heap->(∀b,H b≠none->b=a)->(H a≠none->K.lookup a=none) ->
   zzl77 (model P w) mh (.call (.ref T) ⟨[.ref a],[]⟩) (fun r j=>r=.ok (.ret (.bool true))/\OldK f.heap j.heap/\j.os=f.os/\pS j.gens) f:=by
  intro H hO hS G hA hK;have g:∀{b:Addr}{o:Obj},f.heap.get? b=some o->H b=none->(At f.heap H).get? b=some o:=fun e n=>IS e n;have an:∀{b:Addr}{o:Obj}{es:Array mf}{I:Nat},f.heap.get? b=some o->o.data=.dict es I->H b=none:=fun{b o es I} e d=>by
   cases q:H b with
   |none=>rfl
   |some u =>
    have e':b=a:=hA b (by rw[q];simp);subst e';rw[O]at e;cases e;have d':Data.seq t.toArray _=Data.dict es I:=d;cases d'
  have l:∀{b:Addr}{m:Str->Option Value},f.heap.Ns b m->(At f.heap H).Ns b m:=fun{b m} ⟨o,es,I,e,d,r⟩=>⟨o,es,I,g e (an e d),d,r⟩;have J:K.In (At f.heap H):=fun b o e=>g (KX b o e) (by
   cases q:H b with
   |none=>rfl
   |some u =>
    have e':b=a:=hA b (by rw[q];simp);subst e';rw[hK (by rw[q];simp)]at e;cases e)
  have hM:Mod K A (At f.heap H):=⟨J,l C,⟨Q,l i,U⟩,let⟨mc,h1,h2⟩:=D;⟨mc,l h1,h2⟩⟩;have e0:Eb P w K A (At f.heap H) mh [] f H:=⟨rfl,hM,fun b o e=>KB e,Nat.le_of_eq (GB _ _),trivial,fun b i=>absurd (show b∈([]:Ze)from i) (by simp),G,.of_eq hg⟩;refine Ef ((F _ J (l C)).run mh [] f H ⟨[.ref a],[]⟩ [.ref a] [.ref a] _ _ hr e0 (y f (.ref a)) (.cons rfl .nil) (Y H hO hS)) fun r j h=>?_;cases r with
  |error e=>exact(al H e j h).elim
  |ok fl =>
   cases fl with
   |next=>exact j4 h
   |brk=>exact j4 h
   |cont=>exact j4 h
   |ret u =>
    obtain⟨v,H',os,L,un,M,r',q⟩:=h;have q':v=.bl true:=q;subst q';obtain rfl:u=Value.bool true:=r';refine⟨rfl,OldK.of_keep fun b o e=>?_,os,L⟩;cases q:H b with
    |none=>exact un.keep b o e q (by intro z;exact absurd (show b∈([]:Ze)from z) (by simp)) (by simp)
    |some u =>
     rcases hO b with z|⟨ob,xs,z⟩
     ·rw[q]at z;cases z
     ·have z2:=un.frzs b ob _ z;obtain⟨e1,_⟩:=G b _ z;obtain⟨e2,_⟩:=M b _ z2;rw[e]at e1;cases e1;exact e2
 cases hk:K.lookup a with
 |some o =>
  have e:=KX a o hk;rw[O]at e;cases e;refine p (fun _=>none) (fun _=>.inl rfl) (.inr ⟨_,t.toArray,_,hk,rfl,rfl,rfl,by rw[cf,E];exact hl,by simpa using rv⟩) (fun b u z=>by have N:(none:Option HO)=some u:=z;cases N) (fun b z=>absurd rfl z) fun z=>absurd rfl z
 |none =>
  refine p (fun b=>if b=a then some (.frz { cls:=.type "list",data:=.seq t.toArray } (.lst (B.map V.int)))else none) (fun b=>?_) (.inl (.inr ⟨{ cls:=.type "list",data:=.seq t.toArray },if_pos rfl⟩)) (fun b u z=>?_) (fun b z=>?_) fun _=>hk
  ·by_cases i:b=a
   ·exact .inr ⟨_,_,if_pos i⟩
   ·exact .inl (if_neg i)
  ·by_cases i:b=a
   ·have N:=(if_pos i).symm.trans z;cases N;subst i;exact⟨O,by rw[ah];exact hl,t,_,rv,O⟩
   ·have N:=(if_neg i).symm.trans z;cases N
  ·by_cases i:b=a
   ·exact i
   ·exact absurd (if_neg i) z
end L2
namespace L2
open PySem PySem.Spec PyProof.Rows
theorem JJ{l:PySem.W.OpenLaw}{n k:Nat}{q:bZ}{loose:Zb}{N:(Str->Option Value)->Heap->Prop}{I:World->Heap->Prop}{d:DefRec}{K:Params->Za}{CX:World->Hk}{sp:World->Sp}{x:Str}
  (O:l.most=some n) (y:n<=aj) (z:d.params.defaults=[]) (Q:fM k mh)
  (U:∀(w:World) (h:Heap),I w h->(K w.params).In h)
  (F:∀(w:World) (j:Str->Option Value) (r:Addr) (h:Heap),(K w.params).In h->h.Ns ca j->j d.name=some (.ref r) ->
   ∃A:lE,(∀(s:Shared) (u:Value),uz s A ⟨[u],[]⟩ [(x,u)]) /\
    ∀base:Heap,(K w.params).In base->base.Ns ca j->mU l.prog w (K w.params) j base (CX w) k r A [x] (sp w))
  (B:∀(w:World) (H:Hp) (a:Addr) (t:List Int),t.length<=n->K1 H->ay (K w.params) H a (t.map V.int)->sp w [.ref a] H (fun v _=>v=.bl true) fun _ _ _=>False)
  (C:∀(w:World) (H:Hp) (s:Shared) (e:Value) (D:Shared),CX w [] H s (fun _ _ _=>False) e D->False) :
  PySem.W.WalkO q loose N I l.row.toRowW d [] (fun f J=>PySem.call f J):=by
 refine Att.attach_call O z fun w L m j mb r o pm cd doc a J t G Y ho hd al E p hints i hg=>?_;have M:=U w _ Y;obtain⟨A,hb,hF⟩:=F w j r _ M G.T.g E;exact IH M G.T.g G.T.b G.T.builtins G.T.nolimit hg p hints (aD i y) Q hF hb (fun H hO hS=>B w H a t i hO hS) fun H e D=>C w H m e D
theorem walk_ofK{l:PySem.W.OpenLaw}{n k:Nat}{q:bZ}{loose:Zb}{A:(Str->Option Value)->Heap->Prop}{t:World->Heap->Prop}{d:DefRec}{K:Params->Za}{CX:Hk}{sp:Za->Sp}{x:Str}
  (B:l.most=some n) (j:n<=aj) (m:d.params.defaults=[]) (C:fM k mh)
  (D:∀(w:World) (h:Heap),t w h->(K w.params).In h)
  (F:∀(w:World) (g:Str->Option Value) (y:Addr) (h:Heap),(K w.params).In h->h.Ns ca g->g d.name=some (.ref y) ->
   ∃z:lE,(∀(s:Shared) (u:Value),uz s z ⟨[u],[]⟩ [(x,u)]) /\
    ∀base:Heap,(K w.params).In base->base.Ns ca g->mU l.prog w (K w.params) g base CX k y z [x] (sp (K w.params)))
  (o:∀(K:Za) (H:Hp) (a:Addr) (i:List Int),i.length<=n->K1 H->ay K H a (i.map V.int)->sp K [.ref a] H (fun v _=>v=.bl true) fun _ _ _=>False)
  (p:∀(H:Hp) (s:Shared) (e:Value) (r:Shared),CX [] H s (fun _ _ _=>False) e r->False) :
  PySem.W.WalkO q loose A t l.row.toRowW d [] (fun f E=>PySem.call f E) :=
 JJ (K:=K) (CX:=fun _=>CX) (sp:=fun w=>sp (K w.params)) B j m C D F (fun w H a i G I J=>o (K w.params) H a i G I J) fun _ H s e r=>p H s e r
end L2
namespace L2
open PySem PySem.Spec PyProof.Rows
def dv(s:Stmt)(j:Nat):Stmt:=match s with
 |.ClassDef _ _ _ body _ _ _ _ _ _ _=>body.getD j (.Pass ⟨0,0,0,0⟩)
 |_=>.Pass ⟨0,0,0,0⟩
def i0(s:Stmt):Arguments:=match s with
 |.FunctionDef _ a _ _ _ _ _ _ _ _=>a
 |_=>{ posonlyargs:=[],args:=[],vararg:=none,kwonlyargs:=[],kw_defaults:=[],kwarg:=none,defaults:=[] }
def g7(s:Stmt):List Stmt:=match s with
 |.FunctionDef _ _ b _ _ _ _ _ _ _=>b
 |_=>[]
def cx(s:Stmt):Scope:=match s with
 |.FunctionDef _ _ _ _ _ _ sc _ _ _=>sc
 |_=>{ kind:=.function,names:=[],isGenerator:=false,isCoroutine:=false }
abbrev CX0:Hk:=fun _ _ _ _ _ _=>False
abbrev E0:XK:=fun _ _ _=>False
abbrev aL(sp:Sp)(a:TA):TE:=K8 sp [] E0 a
theorem EJ{X:Cx}:pD CX0 X E0:=fun _ _ _ _ _ _ _ h=>h.elim
structure Mn(K:Za)(x qual:Str)(st:Stmt)(f:Addr)(fd:lE):Prop where
 ex:∃(oc:Value) (od:Option Addr) (kV doc pm:Value) (an:Option Addr) (cdv ct:Value) (osl:Array (Option Value)),
  fd=jf x qual (i0 st) (g7 st) (cx st) .none kV doc pm an cdv ct/\K.lookup f=some ⟨oc,od,.func fd,osl⟩/\oR K cdv qual=true
 kp:iC K (.ref f)=true
section
variable{P:bZ}{w:World}{K:Za}{mg:Str->Option Value}{base:Heap}
theorem Mn.ok{x a:Str}{st:Stmt}{f:Addr}{p:lE}{N j:Zb}{k:Nat}{l:Sp}(F:Mn K x a st f p)(S:lh N j (cx st))(m:∀g H Q E,l g H Q E->g.length=j.length)
  (i:∀(e:Value) (A:Around) (outer:List Env) (s:Shared) (H:Hp) (g:List V) (Q:VK) (E:XK),fM k (A.deeper (envOfC a (cx st) s.heap.objs.size f e))->l g H Q E ->
   ∃t,CM (DO CX0 P w K mg base N a (cx st) f e A outer s H E).nox (g7 st) t/\t (bq Q) (start N g) H):mU P w K mg base CX0 (k+1) f p j l:=by
 obtain⟨v,y,kV,doc,z,B,e,C,r,rfl,lk,n⟩:=F.ex;refine MH lk n S m fun A outer s H g Q E u o=>?_;obtain⟨t,h,q⟩:=i e A outer s H g Q E u o;exact⟨t,h.nox,q⟩
theorem Mn.binds{x a:Str}{st:Stmt}{f:Addr}{l:lE}{ps:Zb}(F:Mn K x a st f l)
  (h:∀(kV doc g:Value) (i:Option Addr) (e j:Value) (k:Zf),k.length=ps.length->bindArgs (jf x a (i0 st) (g7 st) (cx st) .none kV doc g i e j) ⟨k,[]⟩=pure (ps.zip k)):Binds K l ps []:=by
 obtain⟨o,p,kV,doc,g,i,e,j,m,rfl,lk,n⟩:=F.ex;exact .all (h kV doc g i e j)
theorem IW{x a:Str}{st:Stmt}{f:Addr}{m:Value}{n h:Option Addr}{g:Array (Option Value)}{kV doc i e j:Value}(l:K.lookup f=some ⟨m,n,.func (jf x a (i0 st) (g7 st) (cx st) .none kV doc i h e j),g⟩)
  (c:oR K e a=true) (k:iC K (.ref f)=true):Mn K x a st f (jf x a (i0 st) (g7 st) (cx st) .none kV doc i h e j):=⟨⟨m,n,kV,doc,i,h,e,j,g,rfl,l,c⟩,k⟩
end
theorem EW{A:Around}{k:Nat}(a:fM k A):A.units+16<cLine:=uV (Nat.add_le_add_left (by decide:16<=64) _) a.units
theorem ar{n:Nat}(h:n<=1000):n<aj:=uV h (by decide)
section
variable{X:Cx}
theorem pv(i:Nat){x:Str}{a:Pos}(f:X.N[i]?=some x:=by rfl)(g:MY X.env.scope x:=by first|exact Or.inl rfl|exact Or.inr (Or.inl rfl)|exact Or.inr (Or.inr rfl))(h:(x==("__debug__":Str))=false:=by decide)
  (e:(x==("__classdict__":Str))=false:=by decide):PE X (.Name x a) (mq i):=LO f g h e
end
theorem bt{A B:Prop}(h:B):if false=true then A else B:=by
 rw[if_neg jc];exact h
theorem bG{A B:Prop}(h:A):if true=true then A else B:=by
 rw[if_pos rfl];exact h
theorem mJ{c A B:Prop}[Decidable c](a:c->A)(e:¬c->B):if c then A else B:=by
 by_cases h:c
 ·rw[if_pos h];exact a h
 ·rw[if_neg h];exact e h
def ab(H H':Hp):Prop:=∀b o,H b=some o->H' b=some o
theorem ab.refl(H:Hp):ab H H:=fun _ _ h=>h
theorem ab.trans{H e f:Hp}(a:ab H e)(b:ab e f):ab H f:=fun c o h=>b c o (a c o h)
theorem ab.free{H a:Hp}(e:ab H a){l:Addr}(h:a l=Option.none):H l=Option.none:=by
 cases q:H l with
 |none=>rfl
 |some o =>
  rw[e l o q]at h;cases h
theorem ab.seq{K:Za}{H f:Hp}{a:Addr}{g:List V}(e:ab H f)(h:ay K H a g):ay K f a g:=by
 rcases h with(h|⟨o,h⟩)|h
 ·exact .inl (.inl (e _ _ h))
 ·exact .inl (.inr ⟨o,e _ _ h⟩)
 ·exact .inr h
section
variable{prog:bZ}{w:World}{A:Around}{R:Result->Shared->Prop}{s:Shared}
abbrev XF:Value->Shared->Prop:=fun _ _=>False
abbrev DG(ifs:List Expr)(env:Env):Sem Bool:=forIn ifs true fun c r=>if r=true then do let ok <- isTrue c env (eval c env);pure (yW ok)else pure (yW r)
theorem AA{t target j:Expr}{u:List Expr}{scope:Scope}{B:Pos}{it y:Value}{a:Env}(I:Nat->Shared->Prop)
  (turn:∀n s,I n s->wpAny (model prog w) A (pyNext it) (fun r e=>match r with
   |none=>R (.ok .next) e
   |some v=>wpAny (model prog w) A (Ek target it v) (fun _ f=>wpAny (model prog w) A (assign target a v) (fun _ k =>
     wpAny (model prog w) A (DG u a) (fun ok g =>
      if ok=true then wpAny (model prog w) A (eval t a) (fun x l =>
       wpAny (model prog w) A (call (.builtin "list.append") [y,x]) (fun _ o=>∃m,m<n/\I m o) XF l) XF g
      else ∃m,m<n/\I m g) XF k) XF f) XF e) XF s)
  (n:Nat) (h:I n s):zzl77 (model prog w) A (.compLoop (.ListComp t [⟨target,j,u,0⟩] scope B) 0 it y a) R s:=by
 refine codeAny_loop rfl I (fun n s G=>?_) n h;show wpAny _ A ((compTurn (.ListComp t [⟨target,j,u,0⟩] scope B) 0 it y a).onRaise (fun x=>do noteFrame x a;theTreesLotGoes x)) _ _ s
 refine wpAny_noted ?_;rw[compTurn_list];refine am (wpAny_standAt (am (pU (turn n s G) (fun r e p=>?_) fun _ _ i=>i.elim)));cases r with
 |none=>exact aR p
 |some v =>
  refine am (pU p (fun _ f z=>?_) fun _ _ i=>i.elim);refine am (pU z (fun _ k C=>am (pU C (fun ok g q=>?_) fun _ _ i=>i.elim)) fun _ _ i=>i.elim);cases ok with
  |false=>exact aR ⟨rfl,q⟩
  |true =>
   exact am (am (pU q (fun x l D=>am (pU D (fun _ o E=>aR (aR ⟨rfl,E⟩)) fun _ _ i=>i.elim)) fun _ _ i=>i.elim))
end
theorem pA{env:Env}:∀(names:List (Str×jZ)) (a:List (Str×Addr)),(∀y∈names,y.2=.free->∃c,env.cells.lookup y.1=some c)->(∀x c,a.lookup x=some c->env.cells.lookup x=some c) ->
  ∃f:List (Str×Addr),(forIn names a fun(x:Str×jZ) (r:List (Str×Addr))=>if(x.2==me)=true then(cellOf env x.1 >>= fun c=>(pure (yW ((x.1,c)::r)):Sem (ForInStep (List (Str×Addr)))))else pure (yW r))=pure f /\
   (∀x c,f.lookup x=some c->env.cells.lookup x=some c)/\(∀x,(a.lookup x).isSome=true->(f.lookup x).isSome=true)/\∀y∈names,y.2=.free->(f.lookup y.1).isSome=true
 |[],a,_,p=>⟨a,rfl,p,fun _ h=>h,fun _ h=>nomatch h⟩
 | (n,k)::r,a,m,p=>by
  have w:∀y∈r,y.2=.free->∃c,env.cells.lookup y.1=some c:=fun y hy=>m y (dY _ hy);by_cases t:k=.free
  ·subst t;obtain⟨c,z⟩:=m (n,.free) dQ rfl;obtain⟨f,e,u,q,v⟩:=pA r ((n,c)::a) w (fun x d o=>by
    rw[je]at o;cases g:x==n with
    |true =>
     rw[g]at o;have:x=n:=by simpa using g
     subst this;cases o;exact z
    |false=>rw[g]at o;exact p x d o)
   have i:(((n,c)::a).lookup n).isSome=true:=by rw[je,beq_self_eq_true];rfl
   have j:∀x,(a.lookup x).isSome=true->(((n,c)::a).lookup x).isSome=true:=fun x g=>by
    rw[je];cases x==n with
    |true=>rfl
    |false=>exact g
   refine⟨f,?_,u,fun x g=>q x (j x g),fun y hy s=>?_⟩
   ·rw[oM];have l:cellOf env n=pure c:=by unfold cellOf;rw[z]
    simp only[beq_self_eq_true,if_true,l];exact e
   ·rcases cn.mp hy with rfl|hy
    ·exact q _ i
    ·exact v y hy s
  ·obtain⟨f,e,u,q,v⟩:=pA r a w p;refine⟨f,?_,u,q,fun y hy s=>?_⟩
   ·rw[oM];have A:(k==me)=false:=by simpa using t
    simp only[A,l_,if_false];exact e
   ·rcases cn.mp hy with rfl|hy
    ·exact absurd s t
    ·exact v y hy s
theorem v_{env:Env}{scope:Scope}(f:∀y∈scope.names,y.2=.free->∃c,env.cells.lookup y.1=some c):
  ∃a:List (Str×Addr),closureFor scope env=pure a/\(∀x c,a.lookup x=some c->env.cells.lookup x=some c)/\∀y∈scope.names,y.2=.free->(a.lookup y.1).isSome=true:=by
 obtain⟨a,e,g,_,i⟩:=pA (env:=env) scope.names [] f (fun _ _ h=>nomatch h);refine⟨a,?_,g,i⟩;unfold closureFor
 first
  |exact e
  | (simp only[bind_pure];exact e)
  | (rw[show(forIn scope.names [] _:Sem (List (Str×Addr)))=pure a from e];rfl)
def eJ(X:Cx)(N:Zb)(scope:Scope)(C:Addr)(cl:List (Str×Addr))(s₀:Shared)(H₀:Hp)(ex:Ze)(pn:Zd):Cx where
 prog:=X.prog
 w:=X.w
 K:=X.K
 mg:=X.mg
 base:=X.base
 A:=X.A
 N:=N
 s₀:=s₀
 H₀:=H₀
 env:=compEnvC scope cl C X.env
 outer:=X.stack
 stack:=X.stack
 ex:=ex
 fn:=fun _=>false
 calm:=X.calm
 pn:=pn
 xe:=XF
def nJ(sc scope:Scope)(k:Nat)(N XN:Zb)(fi:List Nat):Bool :=
 decide (scope.kind=.function) &&
 (scope.names.all fun y=>decide (y.2≠.cell) && (decide (y.2≠.local) || decide (scope.names.lookup y.1=some .local)) && (decide (y.2≠.free) || decide (sc.names.lookup y.1=some .cell) || decide (sc.names.lookup y.1=some .free))) &&
 decide (N.length=k+fi.length) &&
 ((pT fi.length).all fun j=>match fi[j]? with
  |some i=>match N[k+j]?,XN[i]? with
   |some x,some y=>decide (x=y) && decide (scope.names.lookup x=some .free)
   |_,_=>false
  |none=>false)
structure pK(sc scope:Scope)(k:Nat)(N XN:Zb)(fi:List Nat):Prop where
 kind:scope.kind=.function
 cell:∀y∈scope.names,y.2≠.cell
 nm:∀y∈scope.names,y.2=.local->scope.names.lookup y.1=some .local
 fr:∀y∈scope.names,y.2=.free->sc.names.lookup y.1=some .cell∨sc.names.lookup y.1=some .free
 len:N.length=k+fi.length
 sl:∀j i,fi[j]?=some i->∃x,N[k+j]?=some x/\XN[i]?=some x/\scope.names.lookup x=some .free
theorem pK.of{sc scope:Scope}{k:Nat}{N g:Zb}{l:List Nat}(h:nJ sc scope k N g l=true):pK sc scope k N g l:=by
 unfold nJ at h;simp only[Bool.and_eq_true,List.all_eq_true,Bool.or_eq_true,decide_eq_true_eq]at h;obtain⟨⟨⟨n,m⟩,o⟩,p⟩:=h;refine⟨n,fun y f=>(m y f).1.1,fun y f e=>((m y f).1.2).resolve_left fun z=>z e,fun y f e=>?_,o,fun j i e=>?_⟩
 ·rcases(m y f).2 with(z|z)|z
  ·exact absurd e z
  ·exact .inl z
  ·exact .inr z
 ·have r:j<l.length:=(cj.mp e).1;have q:=p j (List.mem_range.mpr r);rw[e]at q;dsimp only at q;cases a:N[k+j]? with
  |none=>rw[a]at q;cases q
  |some x =>
   cases b:g[i]? with
   |none=>rw[a,b]at q;cases q
   |some y =>
    rw[a,b]at q;simp only[Bool.and_eq_true,decide_eq_true_eq]at q;exact⟨x,rfl,by rw[q.1],q.2⟩
theorem iV{a:Env}:∀{names:List (Str×jZ)}{x:Str},names.lookup x=some .free ->
  (names.map fun(n,k)=>if(k==me && a.scope.kind==.function && a.kindOf n==some .cell)then(n,jZ.cell)else(n,k)).lookup x=some .cell ∨
  (names.map fun(n,k)=>if(k==me && a.scope.kind==.function && a.kindOf n==some .cell)then(n,jZ.cell)else(n,k)).lookup x=some .free
 |[],_,h=>by simp at h
 | (n,k)::r,x,h=>by
  have g:=@iV a r x;simp only[bF];cases e:x==n with
  |true =>
   simp only[je,e]at h;cases h;by_cases f:(me==me && a.scope.kind==.function && a.kindOf n==some .cell)=true
   ·left;rw[if_pos f];simp[je,e]
   ·right;rw[if_neg f];simp[je,e]
  |false =>
   simp only[je,e]at h;by_cases f:(k==me && a.scope.kind==.function && a.kindOf n==some .cell)=true
   ·rw[if_pos f];simp only[je,e];exact g h
   ·rw[if_neg f];simp only[je,e];exact g h
def ei(k:Nat)(fi:List Nat)(σ:St):St:=fT k none++fi.map fun i=>(σ[i]?).join
theorem DQ(k:Nat)(a:List Nat)(σ:St):(ei k a σ).length=k+a.length:=by simp[ei]
theorem v8{k:Nat}{f:List Nat}{σ:St}{i:Nat}{v:V}(h:(ei k f σ)[i]?=some (some v)):∃j t,i=k+j/\f[j]?=some t/\σ[t]?=some (some v):=by
 unfold ei at h;by_cases g:i<k
 ·rw[u4 (by simpa using g),List.getElem?_replicate_of_lt g]at h;cases h
 ·rw[u5 (by simp;omega),List.length_replicate,cC]at h;refine⟨i-k,?_⟩;cases e:f[i-k]? with
  |none=>rw[e]at h;cases h
  |some t =>
   rw[e]at h;simp only[uY]at h;refine⟨t,by omega,rfl,?_⟩;have a:=f6 h;cases l:σ[t]? with
   |none=>rw[l]at a;cases a
   |some o=>rw[l]at a;simp only[Option.join]at a;first|(rw[a])|(subst a;rfl)|(simpa using a)
def Cy(k:Nat)(g:TG):Prop:=∀x σ H Q,g x σ H Q->g x σ H fun σ2 H2=>Q σ2 H2/\σ2.length=σ.length/\∀i,k<=i->σ2[i]?=σ[i]?
def Fq(k:Nat)(g:Hi):Prop:=∀x σ H Q,g x σ H Q->g x σ H fun σ2 H2=>Q σ2 H2/\σ2.length=σ.length/\∀i,k<=i->σ2[i]?=σ[i]?
theorem aJ{k i:Nat}(h:i<k):Cy k (eD i):=fun x σ H Q q=>⟨q,by simp,fun j a=>by rw[Em (by omega)]⟩
theorem jr{k:Nat}:Fq k gM:=fun x σ H Q ⟨e,q⟩=>⟨e,q,rfl,fun _ _=>rfl⟩
def Js(g:TG):Prop:=∀x σ H Q Q',(∀σ2 H2,Q σ2 H2->Q' σ2 H2)->g x σ H Q->g x σ H Q'
def AY(g:Hi):Prop:=∀x σ H Q Q',(∀σ2 H2,Q σ2 H2->Q' σ2 H2)->g x σ H Q->g x σ H Q'
theorem bE{i:Nat}:Js (eD i):=fun _ _ _ _ _ f q=>f _ _ q
theorem cQ:AY gM:=fun _ _ _ _ _ f ⟨e,q⟩=>⟨e,f _ _ q⟩
theorem gp{g:TG}{u:Hi}(a:Js g)(h:AY u):AY (aY g u):=fun _ _ _ _ _ f ⟨v,r,e,q⟩=>⟨v,r,e,a _ _ _ _ _ (fun _ _ q=>h _ _ _ _ _ f q) q⟩
theorem cP{k:Nat}{g:TG}{u:Hi}(f:Cy k g)(h:Js g)(j:Fq k u)(m:AY u):Fq k (aY g u):=fun x σ H Q ⟨v,r,e,q⟩ =>
 ⟨v,r,e,h _ _ _ _ _ (fun σ2 t ⟨q,l,s⟩=>m _ _ _ _ _ (fun σ3 w ⟨n,o,p⟩=>⟨n,o.trans l,fun i a=>(p i a).trans (s i a)⟩) (j _ _ _ _ q)) (f _ _ _ _ q)⟩
theorem k5{K:Za}{k n:Nat}{t:Hi}(h:Fq k t):Cy k (g6 K n t):=fun x σ H Q ⟨a,f,e,g,i,q⟩=>⟨a,f,e,g,i,h _ _ _ _ q⟩
def Lq(X:Cx)(ifs:List Expr)(t:TT):Prop :=
 ∀(J5:Zd) (s:Shared) (σ:St) (H:Hp) (Q:Bool->Hp->Prop),Inv X J5 σ H s->t σ H Q->wpAny (model X.prog X.w) X.A (DG ifs X.env) (TP X J5 σ Q) X.xe s
def gj:TT:=fun _ H Q=>Q true H
theorem bO{X:Cx}:Lq X [] gj:=fun a s σ H Q I h=>aR ⟨H,I,h⟩
theorem iB{X:Cx}{c:Expr}{t:TT}(h:PT X c t):Lq X [c] t:=by
 intro a s σ H Q I e;unfold DG;rw[oM];simp only[if_true];refine am (am (cS (h a s σ H Q I e) fun b f q=>aR ?_));exact aR q
def cA(k:Nat)(fi:List Nat)(wi:TI)(g:TG)(tc:TT)(te:TE):TE:=fun σ H Q=>wi σ H fun J H1=>∀l,H1 l=none->∃W:Nat->Nat->List V->Hp->Prop,(∃m,W 0 m [] (upd H1 l (.lst [])))/\∀i m vs H2,W i m vs H2->H2 l=some (.lst vs) /\
 ((J.stop i H2/\Q (.ref l) H2)∨(J.go i H2/\∀x H3,J.yld i H2 x H3->g x (ei k fi σ) H3 fun σ2 H4=>tc σ2 H4 fun b H5 =>
  if b=true then te σ2 H5 fun v H6=>H6 l=some (.lst vs)/\vs.length<aj/\∃m',m'<m/\W (i+1) m' (vs++[v]) (upd H6 l (.lst (vs++[v])))else ∃m',m'<m/\W (i+1) m' vs H5))
section
variable{X:Cx}{J5:Zd}{σ:St}
theorem KQ{k:Nat}{N:Zb}{scope:Scope}{L:List Nat}{H:Hp}{s:Shared}{u:List (Str×Addr)}{v:Ze}(S:pK X.env.scope scope k N X.N L)(I:Inv X J5 σ H s)
  (i:∀x c,u.lookup x=some c->X.env.cells.lookup x=some c) (w:∀y∈scope.names,y.2=.free->(u.lookup y.1).isSome=true) (A:∀b∈v,om X J5 H b) (B:∀b∈v,b<s.heap.objs.size) :
  (eJ X N scope s.heap.objs.size u s H v (X.pn++J5)).Ok where
 mod:=I.ok.mod
 kind:=S.kind
 glob:=I.ok.glob
 blt:=I.ok.blt
 above:=aB _
 inj:=fun x y c M O=>I.ok.inj x y c (i x c M) (i y c O)
 has:=fun x h=>by
  have C:∃y∈scope.names,y.1=x/\y.2=.free:=by
   have h':(relabel scope X.env).names.lookup x=some .cell∨(relabel scope X.env).names.lookup x=some .free:=h;have m:∀(l:List (Str×jZ)) (f:jZ),l.lookup x=some f->(x,f)∈l:=by
    intro l
    induction l with
    |nil=>intro f e;cases e
    |cons a r Q =>
     intro f e;obtain⟨n,D⟩:=a;rw[je]at e;cases E:x==n with
     |true =>
      rw[E]at e;have:x=n:=by simpa using E
      subst this;cases e;exact dQ
     |false=>rw[E]at e;exact dY _ (Q f e)
   have g:∀f,(x,f)∈(relabel scope X.env).names->f=.cell∨f=.free->∃y∈scope.names,y.1=x/\y.2=.free:=by
    intro f T G;obtain⟨⟨n,D⟩,p,e⟩:=aV.mp T;dsimp only at e;by_cases t:(D==me && X.env.scope.kind==.function && X.env.kindOf n==some .cell)=true
    ·have J:D=.free:=by
      simp only[Bool.and_eq_true]at t;simpa using t.1.1
     rw[if_pos t]at e;cases e;exact⟨_,p,rfl,J⟩
    ·rw[if_neg t]at e;cases e;rcases G with rfl|rfl
     ·exact absurd rfl (S.cell _ p)
     ·exact⟨_,p,rfl,rfl⟩
   rcases h' with h'|h'
   ·exact g _ (m _ _ h') (.inl rfl)
   ·exact g _ (m _ _ h') (.inr rfl)
  obtain⟨y,p,rfl,G⟩:=C;exact y2.mp (w y p G)
 cab:=fun x c h=>by cases h
 hd:=I.ok.hd
 frames:=I.ok.frames
 stk:=.inl rfl
 exf:=fun b j=>⟨cX (B b j),fun x c e=>(A b j).2.2.2.2.1 x c (i x c e)⟩
 bs:=I.bs
 bsz:=aD I.ok.bsz I.sz
 noex:=fun b o e j=>by
  rcases(A b j).2.2.2.1 with z|z
  ·exact I.ok.noex b o e z
  ·exact absurd (dZ (aM (I.ok.bs b o e).1) z) (lG _)
 exfs:=fun b j z=>by
  obtain⟨_,U,Y,_⟩:=A b j;rcases cn.mp (I.stkSub b z)with q|q
  ·exact U q
  ·exact Y q
 funs:=I.stack
 frf:=I.stkFree
theorem Jj{k:Nat}{N:Zb}{scope:Scope}{U:List Nat}{H:Hp}{s:Shared}{E:List (Str×Addr)}{G:Ze}{f:Heap}{t':Nat}{m:Str->Option Value}(S:pK X.env.scope scope k N X.N U)(I:Inv X J5 σ H s)
  (g:∀x c,E.lookup x=some c->X.env.cells.lookup x=some c) (A:∀y∈scope.names,y.2=.free->(E.lookup y.1).isSome=true) (hf:∀b∈G,om X J5 H b) (J:∀b∈G,b<s.heap.objs.size)
  (hn:f.Ns s.heap.objs.size m) (old:∀b o,s.heap.get? b=some o->f.get? b=some o) :
  Inv (eJ X N scope s.heap.objs.size E s H G (X.pn++J5)) [] (ei k U σ) H { s with heap:=f,toks:=t' }:=by
 have w:∀(l:List (Str×jZ)) (x:Str) (B:jZ),l.lookup x=some B->(x,B)∈l:=by
  intro l
  induction l with
  |nil=>intro x B e;cases e
  |cons a r ih =>
   intro x B e;obtain⟨n,k'⟩:=a;rw[je]at e;cases L:x==n with
   |true =>
    rw[L]at e;have:x=n:=by simpa using L
    subst this;cases e;exact dQ
   |false=>rw[L]at e;exact dY _ (ih x B e)
 refine⟨KQ S I g A hf J,rfl,I.bare,Un.kept old,⟨m,hn,fun i x v e1 e2 e3=>?_⟩,fun x c e=>?_,I.hok.fresh (aB _),fun x c e=>I.freeC x c (g x c e),fun p Y=>?_,I.hok.kept old,?_⟩
 ·obtain⟨j,t,rfl,ht,hv⟩:=v8 e2;obtain⟨y,hy,M,C⟩:=S.sl j t ht;have D:N[k+j]?=some x:=e1;rw[hy]at D;cases D;have h:=w _ _ _ C;obtain⟨c,hc⟩:=y2.mp (A _ h rfl);have hX:=g _ _ hc;obtain⟨mX,al,O⟩:=I.loc;have kX:=S.fr _ h rfl;obtain⟨u,ru,lk⟩:=O t x v M hv (by rcases kX with z|z;exact .inr (.inl z);exact .inr (.inr z));refine⟨u,ru,.inr ⟨?_,c,hc,?_⟩⟩
  ·exact iV C
  ·rcases lk with⟨z,_⟩|⟨_,c',e',q⟩
   ·have z':X.env.scope.names.lookup x=some .local:=z;rcases kX with kX|kX<;>rw[z']at kX<;>cases kX
   ·rw[hX]at e';cases e';obtain⟨o,Q,T⟩:=q;exact⟨o,old _ o Q,T⟩
 ·obtain⟨v,o,Q,T⟩:=I.cell x c (g x c e);exact⟨v,o,old _ o Q,T⟩
 ·rw[eZ]at Y;obtain⟨e,n,ne,nf,d⟩:=I.pin p Y;refine⟨old _ _ e,n,cX (aM e),fun z=>?_,d⟩;rcases cn.mp (I.stkSub _ z)with q|q
  ·exact ne q
  ·exact nf q
 ·rw[DQ];exact S.len.symm
structure A6(X:Cx)(J5:Zd)(H:Hp)(C:Addr):Prop where
 free:H C=none
 loc:C≠X.env.locals
 young:X.s₀.heap.objs.size<=C
 cells:∀x c,X.env.cells.lookup x=some c->c≠C
 pin:∀p∈X.pn++J5,p.1≠C
theorem v7{elt iter tg:Expr}{ifs:List Expr}{scope:Scope}{pos:Pos}{k:Nat}{N:Zb}{fi:List Nat}{cl:List (Str×Addr)}{g:TG}{tc:TT}{te:TE}{it:Addr}{fp:Ze}{tn:Nat->Heap->Prop}{J:It}{s:Hp}{s2:Shared}{Q:VK}
  {E:Zc}{RR:Value->Addr->Result->Shared->Prop}
  (S:pK X.env.scope scope k N X.N fi) (hc:X.calm=true) (bd:∀x c,cl.lookup x=some c->X.env.cells.lookup x=some c) (b6:∀y∈scope.names,y.2=.free->(cl.lookup y.1).isSome=true)
  (hg:∀C cl G H ex pn,PG (eJ X N scope C cl G H ex pn) tg g) (ho:Cy k g) (ht:∀C cl G H ex pn,Lq (eJ X N scope C cl G H ex pn) ifs tc) (he:∀C cl G H ex pn,PE (eJ X N scope C cl G H ex pn) elt te)
  (I2:Inv X J5 σ s s2) (T:t_ X.prog X.w X.K tg J fp it tn) (bf:tn 0 s2.heap) (f2:∀b∈fp,om X J5 s b)
  (hw:∀l,s l=none->∃W:Nat->Nat->List V->Hp->Prop,(∃m,W 0 m [] (upd s l (.lst [])))/\∀i m O s,W i m O s->s l=some (.lst O) /\
   ((J.stop i s/\Q (.ref l) s)∨(J.go i s/\∀x H3,J.yld i s x H3->g x (ei k fi σ) H3 fun σ2 H4=>tc σ2 H4 fun b H5 =>
    if b=true then te σ2 H5 fun v H6=>H6 l=some (.lst O)/\O.length<aj/\∃U,U<m/\W (i+1) U (O++[v]) (upd H6 l (.lst (O++[v])))else ∃U,U<m/\W (i+1) U O H5)))
  (hR:∀D C L s' U,Inv X J5 σ L s'->s'.heap.Ns C U->A6 X J5 L C->Q (.ref D) L->RR (.ref D) C (.ok .next) s') :
  wpAny (model X.prog X.w) X.A (newList []) (fun acc s₃=>wpAny (model X.prog X.w) X.A (newFunctionEnv scope X.env.globals cl [] X.env.qual none .none (some X.env)) (fun aC s₄ =>
   zzl77 (model X.prog X.w) X.A (.compStart (.ListComp elt [⟨tg,iter,ifs,0⟩] scope pos) 0 (.ref it) acc { aC with scope:=relabel scope X.env }) (RR acc aC.locals) s₄) E s₃) E s2:=by
 have ap:s s2.heap.objs.size=none:=I2.fresh;obtain⟨W,⟨m0,w0⟩,turn⟩:=hw _ ap;refine rC (wpAny_newFunctionEnv S.cell (by intro y hy;simp at hy) (fun I al an=>?_) S.kind);dsimp only at al an ⊢;have I3:Inv X J5 σ (upd s s2.heap.objs.size (.lst [])) { s2 with heap:=s2.heap.push { cls:=.type "list",data:=.seq ([]:Zf).toArray },toks:=s2.toks }:=I2.lnew (ys:=[]) .nil (cL _);generalize bh:({ s2 with heap:=s2.heap.push { cls:=.type "list",data:=.seq ([]:Zf).toArray },toks:=s2.toks }:Shared)=B at I3;have as:B.heap=s2.heap.push { cls:=.type "list",data:=.seq ([]:Zf).toArray }:=by rw[<-bh]
 have b7:B.heap.objs.size=s2.heap.objs.size+1:=by rw[as,oq]
 have bi:∀b∈fp,b<s2.heap.objs.size:=fun b f=>by
  obtain⟨o,e,_⟩:=T.obj 0 _ bf b f;exact aM e
 have f3:∀b∈fp,om X J5 (upd s s2.heap.objs.size (.lst [])) b:=fun b f=>⟨by rw[ai (cX (bi b f))];exact(f2 b f).1,(f2 b f).2⟩;have a0:∀b∈fp,b<B.heap.objs.size:=fun b f=>by rw[b7];exact Nat.lt_succ_of_lt (bi b f)
 have old:∀b o,B.heap.get? b=some o->I.get? b=some o:=fun b o e=>by
  have f:b≠B.heap.objs.size:=cX (aM e);rw[as]at e f;exact an.extBut b o f (a_ _ e)
 have b8:I.Ns B.heap.objs.size (fun x=>([]:List (Str×Value)).reverse.lookup x):=by rw[as];exact al
 have I4:Inv (eJ X N scope B.heap.objs.size cl B (upd s s2.heap.objs.size (.lst [])) fp (X.pn++J5)) [] (ei k fi σ) (upd s s2.heap.objs.size (.lst [])) { B with heap:=I,toks:=s2.toks+([]:List (Str×Value)).length } :=
  Jj S I3 bd b6 f3 a0 b8 old
 have bl:tn 0 I:=T.keep _ _ _ bf fun b f o e=>old b o (by rw[as];exact a_ _ e);generalize M:eJ X N scope B.heap.objs.size cl B (upd s s2.heap.objs.size (.lst [])) fp (X.pn++J5)=Y at I4;have yp:Y.prog=X.prog:=by rw[<-M];rfl
 have yw:Y.w=X.w:=by rw[<-M];rfl
 have yK:Y.K=X.K:=by rw[<-M];rfl
 have yA:Y.A=X.A:=by rw[<-M];rfl
 have yx:Y.xe=XF:=by rw[<-M];rfl
 have yc:Y.calm=true:=by rw[<-M];exact hc
 have gY:PG Y tg g:=by rw[<-M];exact hg _ _ _ _ _ _
 have tY:Lq Y ifs tc:=by rw[<-M];exact ht _ _ _ _ _ _
 have eY:PE Y elt te:=by rw[<-M];exact he _ _ _ _ _ _
 have bn:Y.env=compEnvC scope cl B.heap.objs.size X.env:=by rw[<-M];rfl
 have fY:∀{L:Hp},(∀b∈fp,L b=none)->∀b∈fp,om Y [] L b:=fun hn b f=>by
  obtain⟨f0,f1,bo,bz,f4,f5⟩:=f3 b f;rw[<-M];refine⟨hn b f,cX (a0 b f),fun z=>?_,.inl f,fun x c e=>f4 x c (bd x c e),fun p hp=>?_⟩
  ·rcases cn.mp (I3.stkSub _ z)with q|q
   ·exact f1 q
   ·exact bo q
  ·rw[eZ]at hp;exact f5 p hp
 have a4:∀s4:Shared,s4={ B with heap:=I,toks:=s2.toks+([]:List (Str×Value)).length } ->
   zzl77 (model X.prog X.w) X.A (.compLoop (.ListComp elt [⟨tg,iter,ifs,0⟩] scope pos) 0 (.ref it) (.ref s2.heap.objs.size) Y.env) (RR (.ref s2.heap.objs.size) B.heap.objs.size) s4:=by
  rintro s4 rfl;refine AA (fun n s'=>∃i O L,Inv Y [] (ei k fi σ) L s'/\tn i s'.heap/\(∀b∈fp,L b=none)/\W i n O L) ?_ m0 ⟨0,[],_,I4,bl,fun b f=>(f3 b f).1,w0⟩;rintro n s5 ⟨i,O,H5,I5,bI,bS,w5⟩;obtain⟨cv,a5⟩:=turn i n O H5 w5;rcases a5 with⟨stop,q⟩|⟨go,step⟩
  ·have d:=T.done Y yp yw yK yc i [] s5 _ H5 XF I5 (fY bS) bI stop;rw[yA]at d;refine cS d fun r s6 a=>?_;obtain⟨hr,I6⟩:=a;subst hr;have hu:Un (Hg X.stack) fp (upd s s2.heap.objs.size (.lst [])) H5 B.heap s6.heap:=by have:=I6.base;rw[<-M]at this;exact this
   have b9:s6.os=B.os:=by have:=I6.os;rw[<-M]at this;exact this
   have bU:nN X.prog X.w X.K H5 s6.heap:=by have:=I6.hok;rw[<-M]at this;exact this
   have cb:H5 B.heap.objs.size=none:=by have:=I6.free;rw[<-M]at this;exact this
   obtain⟨m6,b1,_⟩:=I6.loc;have b2:s6.heap.Ns B.heap.objs.size m6:=by rw[<-M]at b1;exact b1
   have IX:Inv X J5 σ H5 s6:=I3.call' b9 hu bU I6.bare fun b f=>by
    obtain⟨f0,f1,bo,bz,f4,f5⟩:=f3 b f;exact⟨bz,f1,f4,f5⟩
   refine hR _ _ H5 s6 m6 IX b2 ⟨cb,eX I3.lt,I3.sz,fun x c e z=>?_,fun p hp z=>?_⟩ q
   ·obtain⟨v,o,ho,_⟩:=I3.cell x c e;exact absurd (aM ho) (by rw[z];exact lG _)
   ·exact absurd (aM (I3.pin p hp).1) (by rw[z];exact lG _)
  ·have d:=T.item Y yp yw yK yc i [] s5 _ H5 XF I5 (fY bS) bI go;rw[yA]at d;refine cS d fun r s6 a=>?_;obtain⟨u,hr,h6⟩:=a;subst hr;refine cS h6 fun _ s7 a=>?_;obtain⟨x,H7,I7,r7,y7,a6,cd⟩:=a;have ce:=I7.pinned (fY cd) (T.obj _ _ a6);have a7:=gY _ s7 _ H7 x u _ ce r7 (ho _ _ _ _ (step x H7 y7));rw[yp,yw,yA,yx]at a7;refine cS a7 fun _ s8 a=>?_;obtain⟨σ8,H8,I8,q8,l8,k8⟩:=a;have a8:=tY _ s8 σ8 H8 _ I8 q8;rw[yp,yw,yA,yx]at a8;have again:∀{H9:Hp}{s9:Shared}{ba:List V}{U:Nat},Inv Y ([]++vB fp s7.heap) σ8 H9 s9->U<n->W (i+1) U ba H9->∃m,m<n/\∃i O L,Inv Y [] (ei k fi σ) L s9/\tn i s9.heap/\(∀b∈fp,L b=none)/\W i m O L:=fun{H9 s9 ba U} I9 hm w9=>by
    refine⟨U,hm,i+1,ba,H9,(I9.unpinned).weak l8.symm (fun j v e=>?_),T.keep _ _ _ a6 fun b f o e=>(I9.pin (b,o) (dP _ (dP _ (k7 f e)))).1,fun b f=>?_,w9⟩
    ·obtain⟨j',t,rfl,_,_⟩:=v8 e;rw[k8 _ (fo _ _)];exact e
    ·obtain⟨o,e,_⟩:=T.obj _ _ a6 b f;exact(I9.pin (b,o) (dP _ (dP _ (k7 f e)))).2.1
   refine cS a8 fun b s9 a=>?_;obtain⟨H9,I9,q9⟩:=a;cases b with
   |false =>
    rw[if_neg jc]at q9 ⊢;obtain⟨U,hm,w9⟩:=q9;exact again I9 hm w9
   |true =>
    rw[if_pos rfl]at q9 ⊢;have a9:=eY _ s9 σ8 H9 _ I9 q9;rw[yp,yw,yA,yx]at a9;refine cS a9 fun y ch a=>?_;obtain⟨v,b3,cm,co,b4,bc,U,hm,cp⟩:=a;have b5:=dg (X:=Y) _ ch σ8 b3 (.ref s2.heap.objs.size) [v] (.ref s2.heap.objs.size) [y] (fun z L=>z=.non/\L=upd b3 s2.heap.objs.size (.lst (O++[v]))) cm rfl (.cons co .nil) ⟨_,O,v,rfl,rfl,b4,bc,rfl,rfl⟩;rw[yp,yw,yA,yx]at b5;refine cS b5 fun _ c0 a=>?_;obtain⟨_,c1,cs,_,_,ct⟩:=a;subst ct;exact again cs hm cp
 have h:=codeAny_compStart_list (prog:=X.prog) (w:=X.w) (A:=X.A) (elt:=elt) (target:=tg) (iter:=iter) (ifs:=ifs) (rest:=[]) (scope:=scope) (pos:=pos) (it:=.ref it) (acc:=.ref s2.heap.objs.size) (env:=Y.env) (a4 _ rfl) (T.self _ 0 _ _ _ bl (a4 _ rfl));rw[bn]at h;rw[<-bh]at h;exact h
end
section
variable{X:Cx}
theorem A6.turned{a:Zd}{σ:St}{H:Hp}{s:Shared}{C:Addr}{f:Heap}(c:A6 X a H C)(I:Inv X a σ H s)(g:iT C s.heap f):Inv X a σ H { s with heap:=f } :=
 I.turned (t':=s.toks) (fun b o h e=>g.extBut b o h e) c.free c.loc (.inr c.young) c.cells c.pin
theorem Kv{m i p:Expr}{n:List Expr}{scope:Scope}{r:Pos}{k:Nat}{N:Zb}{G:List Nat}{L:TI}{g:TG}{M:TT}{O:TE}(Y:nJ X.env.scope scope k N X.N G=true)(hc:X.calm=true)(hi:PI X p i L)
  (hg:∀C l a f ex o,PG (eJ X N scope C l a f ex o) p g) (ho:Cy k g) (ht:∀C l a f ex o,Lq (eJ X N scope C l a f ex o) n M) (he:∀C l a f ex o,PE (eJ X N scope C l a f ex o) m O)
  (hs:∀x,Bd i X.env x=pure x:=by intro _;rfl):PE X (.ListComp m [⟨p,i,n,0⟩] scope r) (cA k G L g M O):=by
 intro U s σ H Q I h;have S:=pK.of Y;obtain⟨l,j,t,u⟩:=v_ (env:=X.env) (scope:=scope) fun y hy e=>I.ok.has y.1 (S.fr y hy e);rw[eval_ListComp];refine wpAny_comprehension_free (use:=none) rfl hs j S.kind S.nm (cS (hi U s σ H _ I h) fun v s1 h1=>cS h1 fun al s2 h2=>?_);obtain⟨it,fp,tn,J,H2,e,I2,T,z,f2,hw⟩:=h2;subst e;refine v7 (RR:=fun B C=>compPost (model X.prog X.w) X.A X.xe none (EP X U σ Q) B C) S hc t u hg ho ht he I2 T z f2 hw ?_;intro D C H' s' m' I' hn ce q;exact⟨m',hn,fun h' E=>⟨.ref D,H',ce.turned I' E,rfl,q⟩⟩
theorem Dr{m f B:Expr}{n:List Expr}{scope:Scope}{p o t:Pos}{k:Nat}{N:Zb}{fi:List Nat}{wi:TI}{g:TG}{tc:TT}{te:TE}{j:Nat}{y:Str}(hN:X.N.Nodup)(hj:X.N[j]?=some y)(L:Loc X.env.scope y)(hS:nJ X.env.scope scope k N X.N fi=true)(hc:X.calm=true)(hi:PI X B f wi)
  (hg:∀C u i l ex E,PG (eJ X N scope C u i l ex E) B g) (ho:Cy k g) (ht:∀C u i l ex E,Lq (eJ X N scope C u i l ex E) n tc) (he:∀C u i l ex E,PE (eJ X N scope C u i l ex E) m te)
  (M:sV (.ListComp m [⟨B,f,n,0⟩] scope p) (some (.Name y t)) o.line X.env=pure true:=by rfl)
  (hs:∀x,Bd f X.env x=pure x:=by intro _;rfl) (hf:X.fn y=true∨X.env.scope.names.lookup y=some .local:=by first|exact .inl rfl|exact .inr rfl|assumption) :
  PS X (.Assign [.Name y t] (.ListComp m [⟨B,f,n,0⟩] scope p) o) (aI (cA k fi wi g tc te) (eD j)):=by
 intro O s σ H D I h;have S:=pK.of hS;obtain⟨u,r,U,Y⟩:=v_ (env:=X.env) (scope:=scope) fun y L e=>I.ok.has y.1 (S.fr y L e);rw[exec_Assign_Name_used _ _ _ _ M];refine am (wpAny_standAt (am ?_));show wpAny _ X.A (do let _ <- comprehension (.ListComp m [⟨B,f,n,0⟩] scope p) scope X.env _ (newList []) false (eval f X.env) (some (assign (.Name y t) X.env))) _ _ s
 refine am (pU (wpAny_comprehension_free (use:=some (assign (.Name y t) X.env)) (Q:=fun _ G=>SP X O D .next G) rfl hs r S.kind S.nm
  (cS (hi O s σ H _ I h) fun v s1 h1=>cS h1 fun a5 s2 h2=>?_)) (fun _ G hq=>aR (aR hq)) fun _ _ e=>e)
 obtain⟨it,fp,tn,J,H2,e,I2,T,al,f2,hw⟩:=h2;subst e;refine v7 (RR:=fun an C=>compPost (model X.prog X.w) X.A X.xe (some (assign (.Name y t) X.env)) (fun _ G=>SP X O D .next G) an C) (Q:=fun x H1=>eD j x σ H1 D.nx) S hc U Y hg ho ht he I2 T al f2 hw ?_;intro A C H' G m' I' hn ce q;show wpAny _ X.A (assign (.Name y t) X.env (.ref A)) _ _ _;refine wpAny_assign_Name (xz I' hN hj L (v:=.ref A) rfl (fun a6 ap as=>?_) hf);obtain⟨a,aC,ha⟩:=as;have a0:C≠a:=by
  rcases ha with z|z
  ·rw[z];exact ce.loc
  ·exact b_ (ce.cells y a z)
 refine⟨m',hn.sameBut aC a0,fun h' a4=>?_⟩;exact⟨_,H',ce.turned ap a4,q⟩
end
theorem Inv.turnedNew{X:Cx}{i:Zd}{σ:St}{H:Hp}{s:Shared}{g:Heap}{t:Nat}{ch:Ze}{o:HO}(I:Inv X i σ H s)(j:∀b∈ch,om X i H b)
  (k:∀b q,b∉ch->s.heap.get? b=some q->g.get? b=some q) (N:∃q,g.get? s.heap.objs.size=some q) (x:∀y,o≠.own y) (new:cZ X.prog X.w X.K (upd H s.heap.objs.size o) g s.heap.objs.size o) :
  Inv X i σ (upd H s.heap.objs.size o) { s with heap:=g,toks:=t }:=by
 have a:H s.heap.objs.size=none:=I.fresh;have l:∀b q,s.heap.get? b=some q->b≠s.heap.objs.size:=fun b q e=>cX (aM e);have p:∀b u,H b=some u->b∉ch:=fun b u e z=>by rw[(j b z).1]at e;cases e
 refine I.step (g':=s.gens) (d':=s.drawn) (ch:=ch) (fun b h=>?_) (fun b q _ _ f e _=>k b q f e) (fun b q _ _ f e _=>⟨q.slots,k b q f e⟩) (fun b q _ e n=>by rw[ai (l b q e)];exact n) (fun b q f e=>⟨q,k b q f e⟩)
  (fun b A e=>by rw[ai (ae e a)];exact e) (fun b q u e=>by rw[ai (ae e a)];exact e) (fun b O e=>⟨#[],by rw[ai (ae e a),e];simp⟩) (fun m B=>?_) (fun b u e=>?_) I.bare
 ·obtain⟨Q,C,T,D,E,G⟩:=j b h;exact⟨D,C,E,G⟩
 ·obtain⟨q,J,L,M,r⟩:=B;exact⟨q,J,L,k _ q (fun z=>(j _ z).2.1 rfl) M,r⟩
 ·by_cases h:b=s.heap.objs.size
  ·subst h;rw[aa]at e;cases e;exact new
  ·rw[ai h]at e;refine(I.hok b u e).stay (fun c v f q=>k c v ?_ q) (fun c q=>by rw[ai (ae q a)];exact q) fun c A q=>by rw[ai (ae q a)];exact q
   rcases f with z|z
   ·subst z;exact p _ _ e
   ·exact p _ _ z
def MQ(K:Za)(a:Addr):It :=
 ⟨fun i H=>∃xs x,ay K H a xs/\xs[i]?=some x,fun i H x H'=>∃p v,x=.ref p/\H p=none/\(∀xs,ay K H a xs->xs[i]?=some v)/\H'=upd H p (.tup [.int i,v]),fun i H=>∃xs,ay K H a xs/\xs.length<=i⟩
theorem FB{P:bZ}{w:World}{K:Za}{es:List Expr}{kx:Nat}{J8:Pos}(a e it:Addr)(m:e≠it):
  t_ P w K (.Tuple es kx J8) (MQ K a) [e,it] e (fun i h=>(∃old,IsEnum h e it i old)/\h.IsListIter it a i) where
 mem:=by simp
 obj:=fun i h st b l=>by
  obtain⟨⟨old,g⟩,o,G,J,hd⟩:=st;rcases cn.mp l with z|z
  ·subst z;exact⟨_,g,fun v z=>by cases z⟩
  ·have L:b=it:=by simpa using z
   subst L;exact⟨o,G,fun v z=>by rw[hd]at z;cases z⟩
 keep:=fun i h C st k=>⟨let⟨old,g⟩:=st.1;⟨old,k e (by simp) _ g⟩,st.2.at fun o e=>k it (by simp) o e⟩
 item:=by
  intro X M N O J i J5 s σ H E I n st Q;subst M N O;obtain⟨⟨old,g⟩,j⟩:=st;obtain⟨xs,x,D,T⟩:=Q;obtain⟨U,Y,p,hz⟩:=I.list D;obtain⟨u,hu,ru⟩:=Y.get T;obtain⟨e0,e1,e2,e3,e4,e5⟩:=n e (by simp);obtain⟨f0,f1,f2,f3,f4,f5⟩:=n it (by simp);refine wpAny_pyNext_enum_item g j p.isList (x:=u) (by simpa using hu) m fun C al r an a8 ap=>?_;refine⟨_,rfl,wpAny_letOwnedTupleGo_enum (s:={ s with heap:=C,toks:=s.toks+1 }) al fun h2 as aC=>?_⟩;have f:iT e C h2:=aC;have t:s.heap.objs.size≠e:=eX (aM g);have A:h2.get? s.heap.objs.size=some { cls:=.type "tuple",data:=.seq #[.int i s.toks,u] }:=f.extBut _ _ t an;have a0:H s.heap.objs.size=none:=I.fresh;have a4:upd H s.heap.objs.size (.tup [.int i,x]) e=none:=by rw[ai (b_ t)];exact e0
  have a5:s.heap.objs.size≠it:=by
   obtain⟨o,G,_⟩:=j;exact eX (aM G)
  have a6:upd H s.heap.objs.size (.tup [.int i,x]) it=none:=by rw[ai (b_ a5)];exact f0
  have I2:Inv X J5 σ (upd H s.heap.objs.size (.tup [.int i,x])) { s with heap:=h2,toks:=s.toks+1 }:=by
   refine I.turnedNew (ch:=[e,it]) n (fun b o l q=>?_) ⟨_,A⟩ (fun _ z=>nomatch z) ⟨by show 2<=aj;decide,[.int i s.toks,u],.cons ⟨_,rfl⟩ (.cons ru .nil),⟨_,A,rfl,_,rfl⟩⟩;have B:b≠e:=fun z=>l (by simp[z]);have a7:b≠it:=fun z=>l (by simp[z]);exact f.extBut _ _ B (ap b o B a7 q)
  refine⟨.ref s.heap.objs.size,_,I2,rfl,⟨_,x,rfl,a0,fun ys hy=>by rw[I.list_inj hy D];exact T,rfl⟩,⟨⟨u,by simpa using as⟩,r.at fun o y=>(f.2 it (b_ m)).trans y⟩,fun b l=>?_⟩;rcases cn.mp l with z|z
  ·subst z;exact a4
  ·have L:b=it:=by simpa using z
   subst L;exact a6
 done:=by
  intro X M N O J i J5 s σ H E I n st Q;subst M N O;obtain⟨⟨old,g⟩,j⟩:=st;obtain⟨xs,D,T⟩:=Q;obtain⟨U,Y,p,hz⟩:=I.list D;obtain⟨f0,f1,f2,f3,f4,f5⟩:=n it (by simp);have hl:=Y.length;exact wpAny_pyNext_enum_end (I.ok.hd J) g j p.isList (by simp;omega) fun C eb=>⟨rfl,I.turned (t':=s.toks) (fun b o l e=>eb b o l e) f0 f1 f3 f4 f5⟩
 self:=fun _ _ _ _ _ st h=>let⟨_,g⟩:=st.1;wpAny_pyIter_enum g h
section
variable{X:Cx}{p pos:Pos}{es:List Expr}{kx:Nat}{J8:Pos}
def vS(K:Za)(ta:TA):TI:=fun σ H R=>ta σ H fun vs H1=>∃a,vs=[.ref a]/\(∃xs,ay K H1 a xs)/\R (MQ K a) H1
theorem nA{a:Expr}{n:TA}(w:Gl X "enumerate")(x:X.mg "enumerate"=none)(y:PA X [a] n)(A:aK [a] X.env=[(false,eval a X.env)]:=by rfl):PI X (.Tuple es kx J8) (.Call (.Name "enumerate" p) [a] [] pos) (vS X.K n):=by
 intro r s σ H R I h;refine Call_ (k9 I w x boot_enumerate (sU (cS (y pos r s σ H _ I h) fun T s1 i=>?_) A rfl));obtain⟨U,t,g,B,C⟩:=i;obtain⟨l,e,⟨Y,D⟩,q⟩:=C;subst e;obtain⟨u,rfl,E⟩:=vals1 B;cases E;obtain⟨G,rv,J,hz⟩:=g.list D;refine call_enumerate_list J.isList fun j v k L M=>?_;refine wpAny_pyIter_enum (s:={ s1 with heap:=j }) v ?_;have m:∀b o,s1.heap.get? b=some o->j.get? b=some o:=M;have N:Inv X r σ t { s1 with heap:=j }:=g.kept (t':=s1.toks) m;refine⟨_,[s1.heap.objs.size+1,s1.heap.objs.size],_,_,t,rfl,N,FB l _ _ (Nat.succ_ne_self _),⟨⟨_,v⟩,k⟩,fun b O=>?_,q⟩;have f:s1.heap.objs.size<=b:=by
  rcases cn.mp O with z|z
  ·rw[z];exact Ed _
  ·have Q:b=s1.heap.objs.size:=by simpa using z
   rw[Q];exact aB _
 exact g.fpOk f (g.hok.fresh f)
end
def Na(x:Str):It:=⟨fun i _=>i<x.cps.size,fun i H y H'=>H'=H/\∃c,x.cps[i]?=some c/\y=.str ⟨#[c]⟩,fun i _=>x.cps.size<=i⟩
theorem CS{P:bZ}{w:World}{K:Za}{J:Expr}(x:Str)(t:Tok)(it:Addr):t_ P w K J (Na x) [it] it (fun i h=>h.IsStrIter it "str_ascii_iterator" x t i) where
 mem:=by simp
 obj:=fun i h st b a=>by
  have e:b=it:=by simpa using a
  subst e;obtain⟨o,e,c,d⟩:=st;exact⟨o,e,fun v z=>by rw[d]at z;cases z⟩
 keep:=fun i h g st k=>by
  obtain⟨o,e,c,d⟩:=st;exact⟨o,k it (by simp) o e,c,d⟩
 item:=by
  intro X l m n C i D s σ H E I j st p;subst l m n;have q:i<x.cps.size:=p;obtain⟨r,u,L,y,A,B⟩:=j it (by simp);have G:x.cps[i]?=some x.cps[i]:=by simp[q]
  refine wpAny_pyNext_ascii_item st G fun g f M=>?_;have N:Inv X D σ H { s with heap:=g,toks:=s.toks+1 }:=I.turned (t':=s.toks+1) (fun b o a e=>(M.2 b a).trans e) r u y A B;obtain⟨o,e,c,d⟩:=id f;exact⟨_,rfl,vT (s:={ s with heap:=g,toks:=s.toks+1 }) e c d (by decide) ⟨.str ⟨#[x.cps[i]]⟩,H,N,⟨_,rfl⟩,⟨rfl,_,G,rfl⟩,f,fun b a=>(j b a).1⟩⟩
 done:=by
  intro X l m n C i D s σ H E I j st p;subst l m n;have O:x.cps.size<=i:=p;obtain⟨r,u,L,y,A,B⟩:=j it (by simp);exact wpAny_pyNext_ascii_end (I.ok.hd C) st (by simp;omega) fun g Q=>⟨rfl,I.turned (t':=s.toks) (fun b o a e=>Q b o a e) r u y A B⟩
 self:=fun _ _ _ _ _ st h=>wpAny_pyIter_striter_ascii st h
theorem Fz{P:bZ}{w:World}{K:Za}{J:Expr}(x:Str)(t:Tok)(it:Addr):t_ P w K J (Na x) [it] it (fun i h=>h.IsStrIter it "str_iterator" x t i) where
 mem:=by simp
 obj:=fun i h st b a=>by
  have e:b=it:=by simpa using a
  subst e;obtain⟨o,e,c,d⟩:=st;exact⟨o,e,fun v z=>by rw[d]at z;cases z⟩
 keep:=fun i h g st k=>by
  obtain⟨o,e,c,d⟩:=st;exact⟨o,k it (by simp) o e,c,d⟩
 item:=by
  intro X l m n C i D s σ H E I j st p;subst l m n;have q:i<x.cps.size:=p;obtain⟨r,u,L,y,A,B⟩:=j it (by simp);have G:x.cps[i]?=some x.cps[i]:=by simp[q]
  refine wpAny_pyNext_wide_item st G fun g f M=>?_;have N:Inv X D σ H { s with heap:=g,toks:=s.toks+1 }:=I.turned (t':=s.toks+1) (fun b o a e=>(M.2 b a).trans e) r u y A B;obtain⟨o,e,c,d⟩:=id f;exact⟨_,rfl,vT (s:={ s with heap:=g,toks:=s.toks+1 }) e c d (by decide) ⟨.str ⟨#[x.cps[i]]⟩,H,N,⟨_,rfl⟩,⟨rfl,_,G,rfl⟩,f,fun b a=>(j b a).1⟩⟩
 done:=by
  intro X l m n C i D s σ H E I j st p;subst l m n;have O:x.cps.size<=i:=p;obtain⟨r,u,L,y,A,B⟩:=j it (by simp);exact wpAny_pyNext_wide_end (I.ok.hd C) st (by simp;omega) fun g Q=>⟨rfl,I.turned (t':=s.toks) (fun b o a e=>Q b o a e) r u y A B⟩
 self:=fun _ _ _ _ _ st h=>wpAny_pyIter_striter_wide st h
section
variable{X:Cx}{p pos:Pos}{tg:Expr}
def MF(tl:TE):TI:=fun σ H R=>tl σ H fun v H1=>∃x,v=.str x/\R (Na x) H1
theorem LM{l:Expr}{k:TE}(r:PE X l k):PI X tg l (MF k):=by
 intro m s σ H R I h;refine cS (r m s σ H _ I h) fun v a i=>?_;obtain⟨y,j,g,u,w⟩:=i;obtain⟨x,e,q⟩:=w;subst e;obtain⟨t,rfl⟩:=u;have f:∀b∈[a.heap.objs.size],om X m j b:=fun b z=>by
  have e:b=a.heap.objs.size:=by simpa using z
  subst e;exact g.fpOk (aB _) (g.hok.fresh (aB _))
 cases n:x.cps.all (·<128)
 ·refine wpAny_pyIter_wide n ?_;exact⟨a.heap.objs.size,[a.heap.objs.size],_,_,j,rfl,g.kept (t':=a.toks) fun b o e=>a_ _ e,Fz x t _,⟨_,dh _ rfl,rfl,rfl⟩,f,q⟩
 ·refine wpAny_pyIter_ascii n ?_;exact⟨a.heap.objs.size,[a.heap.objs.size],_,_,j,rfl,g.kept (t':=a.toks) fun b o e=>a_ _ e,CS x t _,⟨_,dh _ rfl,rfl,rfl⟩,f,q⟩
end
def M_(K:Za)(a b:Addr):It :=
  ⟨fun i H=>∃xs ys x y,ay K H a xs/\ay K H b ys/\xs[i]?=some x/\ys[i]?=some y,
   fun i H x H'=>∃p u v,x=.ref p/\H p=none/\(∀xs,ay K H a xs->xs[i]?=some u)/\(∀ys,ay K H b ys->ys[i]?=some v)/\H'=upd H p (.tup [u,v]),
   fun i H=>∃xs ys,ay K H a xs/\ay K H b ys/\(xs.length<=i∨ys.length<=i)⟩
theorem Ht{P:bZ}{w:World}{K:Za}{es:List Expr}{kx:Nat}{J8:Pos}(a b z TI TO t A:Addr)(D:md z TI TO t A a b):
  t_ P w K (.Tuple es kx J8) (M_ K a b) [z,TI,TO,t,A] z (fun i h=>IsZip h z TI TO .none/\IsPair h TI (.ref t) (.ref A)/\(∃a b,IsPair h TO a b)/\h.IsListIter t a i/\h.IsListIter A b i) where
 mem:=by simp
 obj:=fun i h st c f=>by
  obtain⟨p,j,⟨u,v,l⟩,G,J⟩:=st;simp only[cn,iM,or_false]at f;rcases f with rfl|rfl|rfl|rfl|rfl
  ·exact⟨_,p,fun v z=>by cases z⟩
  ·exact⟨_,j,fun v z=>by cases z⟩
  ·exact⟨_,l,fun v z=>by cases z⟩
  ·obtain⟨o,e,c,d⟩:=G;exact⟨o,e,fun v z=>by rw[d]at z;cases z⟩
  ·obtain⟨o,e,c,d⟩:=J;exact⟨o,e,fun v z=>by rw[d]at z;cases z⟩
 keep:=fun i h N st k=>by
  obtain⟨p,j,⟨u,v,l⟩,G,J⟩:=st;exact⟨k z (by simp) _ p,k TI (by simp) _ j,⟨u,v,k TO (by simp) _ l⟩,G.at fun o e=>k t (by simp) o e,J.at fun o e=>k A (by simp) o e⟩
 item:=by
  intro X hP hw hK f i J5 s σ H E I M st hg;subst hP hw hK;obtain⟨p,j,⟨u0,v0,l⟩,G,J⟩:=st;obtain⟨xs,ys,x,y,B,C,hx,hy⟩:=hg;obtain⟨as,rx,px,zx⟩:=I.list B;obtain⟨aC,ry,py,zy⟩:=I.list C;obtain⟨u,hu,ru⟩:=rx.get hx;obtain⟨v,hv,rv⟩:=ry.get hy;refine wpAny_pyNext_zip_item D p j l G J px.isList py.isList (x:=u) (y:=v) (by simpa using hu) (by simpa using hv) fun N a1 a2 a3 a4 a5 a6 hk=>?_;refine⟨_,rfl,wpAny_letOwnedTupleGo_zip (s:={ s with heap:=N }) a1 fun L a0 a7=>?_⟩;have g:iT z N L:=a7;have O:s.heap.objs.size≠z:=eX (aM p);have Q:s.heap.objs.size≠TO:=eX (aM l);have T:s.heap.objs.size≠TI:=eX (aM j);have U:s.heap.objs.size≠t:=by obtain⟨o,Y,_⟩:=G;exact eX (aM Y)
  have al:s.heap.objs.size≠A:=by obtain⟨o,Y,_⟩:=J;exact eX (aM Y)
  have an:IsPair L s.heap.objs.size u v:=g.extBut _ _ O a5;have I2:Inv X J5 σ (upd H s.heap.objs.size (.tup [x,y])) { s with heap:=L,toks:=s.toks }:=by
   refine I.turnedNew (ch:=[z,TI,TO,t,A]) M (fun c o f q=>?_) ⟨_,an⟩ (fun _ z=>nomatch z) ⟨by show 2<=aj;decide,[u,v],.cons ru (.cons rv .nil),⟨_,an,rfl,_,rfl⟩⟩;have n1:c≠z:=fun q=>f (by simp[q]);exact g.extBut _ _ n1 (hk c o n1 (fun q=>f (by simp[q])) (fun q=>f (by simp[q])) (fun q=>f (by simp[q])) q)
  refine⟨.ref s.heap.objs.size,_,I2,rfl,⟨_,x,y,rfl,I.fresh,fun zs p=>by rw[I.list_inj p B];exact hx,fun zs p=>by rw[I.list_inj p C];exact hy,rfl⟩,⟨a0,g.extBut _ _ D.TIz (hk _ _ D.TIz D.TITO D.TIi1 D.TIi2 j),⟨_,_,g.extBut _ _ D.TOz a2⟩,a3.at fun o e=>g.extBut _ _ D.i1z e,a4.at fun o e=>g.extBut _ _ D.i2z e⟩,fun c f=>?_⟩;have a8:=(M c f).1;simp only[cn,iM,or_false]at f;have ne:c≠s.heap.objs.size:=by
   rcases f with rfl|rfl|rfl|rfl|rfl
   ·exact O.symm
   ·exact T.symm
   ·exact Q.symm
   ·exact U.symm
   ·exact al.symm
  rw[ai ne];exact a8
 done:=by
  intro X hP hw hK f i J5 s σ H E I M st hg;subst hP hw hK;obtain⟨p,j,⟨u0,v0,l⟩,G,J⟩:=st;obtain⟨xs,ys,B,C,ap⟩:=hg;obtain⟨as,rx,px,zx⟩:=I.list B;obtain⟨aC,ry,py,zy⟩:=I.list C;have lx:=rx.length;have ly:=ry.length;refine wpAny_pyNext_zip_end (I.ok.hd f) D p j l G J px.isList py.isList (by rcases ap with q|q;exact .inl (by simp;omega);exact .inr (by simp;omega)) fun N hk=>⟨rfl,?_⟩;have tr:∀c q,H c=some q->c∉[z,TI,TO,t,A]:=fun c q e m=>by rw[(M c m).1]at e;cases e
  have kk:∀c o,c∉[z,TI,TO,t,A]->s.heap.get? c=some o->N.get? c=some o:=fun c o f q=>hk c o (fun q=>f (by simp[q])) (fun q=>f (by simp[q])) (fun q=>f (by simp[q])) (fun q=>f (by simp[q])) q;refine I.step (g':=s.gens) (d':=s.drawn) (t':=s.toks) (ch:=[z,TI,TO,t,A]) (fun c f=>?_) (fun c o _ _ f e _=>kk c o f e) (fun c o _ _ f e _=>⟨o.slots,kk c o f e⟩) (fun _ _ _ _ n=>n) (fun c o f e=>⟨o,kk c o f e⟩) (fun _ _ e=>e) (fun _ _ _ e=>e) (fun c ps e=>⟨#[],by rw[e];simp⟩) (fun m hm=>?_) (fun c q e=>?_) I.bare
  ·obtain⟨f0,f1,f2,f3,f4,f5⟩:=M c f;exact⟨f3,f1,f4,f5⟩
  ·obtain⟨q,a9,ep,Y,r⟩:=hm;exact⟨q,a9,ep,kk _ q (fun z=>(M _ z).2.1 rfl) Y,r⟩
  ·refine(I.hok c q e).stay (fun d v hd q'=>kk d v ?_ q') (fun _ q=>q) fun _ _ q=>q;rcases hd with z|z
   ·subst z;exact tr _ _ e
   ·exact tr _ _ z
 self:=fun _ _ _ _ _ st h=>uU st.1 h
section
variable{X:Cx}{p pos:Pos}{es:List Expr}{kx:Nat}{J8:Pos}
def IQ(K:Za)(ta:TA):TI:=fun σ H R=>ta σ H fun vs H1=>∃a b,vs=[.ref a,.ref b]/\(((∃xs,ay K H1 a xs)/\(∃ys,ay K H1 b ys)/\R (M_ K a b) H1)∨False)
theorem EF{a b:Expr}{t:TA}(z:Gl X "zip")(A:X.mg "zip"=none)(B:PA X [a,b] t)(C:aK [a,b] X.env=[(false,eval a X.env),(false,eval b X.env)]:=by rfl)(f:aK [b] X.env=[(false,eval b X.env)]:=by rfl):
  PI X (.Tuple es kx J8) (.Call (.Name "zip" p) [a,b] [] pos) (IQ X.K t):=by
 intro j s σ H R I h;refine Call_ (k9 I z A boot_zip (sU (cS (B pos j s σ H _ I h) fun us s1 k=>?_) (by rw[C,f]) (by rw[f];rfl)));obtain⟨vs,l,g,D,E⟩:=k;obtain⟨G,J,e,q⟩:=E;subst e;obtain⟨u,v,rfl,L,M⟩:=vals2 D;cases L;cases M;have m:∀b∈[s1.heap.objs.size+4,s1.heap.objs.size+2,s1.heap.objs.size+3,s1.heap.objs.size,s1.heap.objs.size+1],om X j l b:=fun b w=>by
  have i:s1.heap.objs.size<=b:=by
   simp only[cn,iM,or_false]at w;rcases w with rfl|rfl|rfl|rfl|rfl<;>omega
  exact g.fpOk i (g.hok.fresh i)
 rcases q with⟨⟨xs,N⟩,⟨ys,O⟩,q⟩|q
 ·obtain⟨Q,rx,x,zx⟩:=g.list N;obtain⟨T,ry,y,zy⟩:=g.list O;obtain⟨o1,n1,U,_⟩:=id x;obtain⟨o2,n2,Y,_⟩:=id y;refine call_zip_2 x.isList y.isList fun n a1 a2 a3 a4 a5 a6 hk=>?_;refine uU (s:={ s1 with heap:=n }) a1 ?_;have r:∀b o,s1.heap.get? b=some o->n.get? b=some o:=hk;have I2:Inv X j σ l { s1 with heap:=n }:=g.kept (t':=s1.toks) r;exact⟨_,_,_,_,l,rfl,I2,Ht G J _ _ _ _ _ (zipApart_new (aM U) (aM Y)),⟨a1,a2,⟨_,_,a3⟩,a4,a5⟩,m,q⟩
 ·exact q.elim
end
inductive DT where
 |k (a:ge)
 |t (l:List DT)
 |s (l:List DT)
mutual
def Lo:(x y:DT)->Decidable (x=y)
 |.k a,.k b=>if h:a=b then Decidable.isTrue (by rw[h])else Decidable.isFalse fun e=>h (by injection e)
 |.t l,.t m=>match decDTs l m with
  |Decidable.isTrue h=>Decidable.isTrue (by rw[h])
  |Decidable.isFalse h=>Decidable.isFalse fun e=>h (by injection e)
 |.s l,.s m=>match decDTs l m with
  |Decidable.isTrue h=>Decidable.isTrue (by rw[h])
  |Decidable.isFalse h=>Decidable.isFalse fun e=>h (by injection e)
 |.k _,.t _=>Decidable.isFalse nofun
 |.k _,.s _=>Decidable.isFalse nofun
 |.t _,.k _=>Decidable.isFalse nofun
 |.t _,.s _=>Decidable.isFalse nofun
 |.s _,.k _=>Decidable.isFalse nofun
 |.s _,.t _=>Decidable.isFalse nofun
def decDTs:(x y:List DT)->Decidable (x=y)
 |[],[]=>Decidable.isTrue rfl
 |[],_::_=>Decidable.isFalse nofun
 |_::_,[]=>Decidable.isFalse nofun
 |a::l,b::m=>match Lo a b with
  |Decidable.isTrue h=>match decDTs l m with
   |Decidable.isTrue h'=>Decidable.isTrue (by rw[h,h'])
   |Decidable.isFalse h'=>Decidable.isFalse fun e=>h' (by injection e)
  |Decidable.isFalse h=>Decidable.isFalse fun e=>h (by injection e)
end
instance:DecidableEq DT:=Lo
mutual
def DT.depth:DT->Nat
 |.k _=>0
 |.t l=>DT.depths l+1
 |.s l=>DT.depths l+1
def DT.depths:List DT->Nat
 |[]=>0
 |a::r=>max (DT.depth a) (DT.depths r)
end
mutual
def uy(h:Heap):DT->Value->Prop
 |.k a,v=>dU a v=true
 |.t l,v=>∃a items,v=.ref a/\h.IsTuple a items/\DAts h l items.toList
 |.s l,v=>∃a items,v=.ref a/\h.IsList a items/\DAts h l items.toList
def DAts(h:Heap):List DT->List Value->Prop
 |[],vs=>vs=[]
 |k::r,vs=>∃v us,vs=v::us/\uy h k v/\DAts h r us
end
theorem DAts.length{h:Heap}:∀{f:List DT}{a:Zf},DAts h f a->f.length=a.length
 |[],a,e=>by have g:a=[]:=e;rw[g];rfl
 |x::f,a,e=>by
  obtain⟨v,j,rfl,_,i⟩:=e;simp[DAts.length i]
theorem DAts.get{h:Heap}:∀{f:List DT}{a:Zf}{i:Nat}{v:Value},DAts h f a->a[i]?=some v->∃x,f[i]?=some x/\uy h x v
 |[],a,i,v,e,q=>by have g:a=[]:=e;subst g;simp at q
 |x::f,a,i,v,e,q=>by
  obtain⟨u,n,rfl,j,k⟩:=e;cases i with
  |zero =>
   simp at q;subst q;exact⟨x,rfl,j⟩
  |succ i =>
   obtain⟨y,l,m⟩:=DAts.get k (i:=i) (v:=v) (by simpa using q);exact⟨y,by simpa using l,m⟩
theorem DT.depths_get{l:List DT}{x:DT}{i d:Nat}(h:DT.depths l<=d)(e:l[i]?=some x):x.depth<=d:=by
 induction l generalizing i with
 |nil=>simp at e
 |cons a r f =>
  have g:max a.depth (DT.depths r)<=d:=h;cases i with
  |zero=>simp at e;subst e;omega
  |succ i=>exact f (by omega) (by simpa using e)
theorem DF{h:Heap}{a:Addr}{i j:Array Value}(x:h.IsList a i)(y:h.IsList a j):i=j:=by
 obtain⟨o,g,_,n,k⟩:=x;obtain⟨l,e,_,m,f⟩:=y;rw[g]at e;cases e;rw[k]at f;injection f
theorem B9{h:Heap}{a:Addr}{i j:Array Value}(x:h.IsTuple a i)(y:h.IsTuple a j):i=j:=by
 obtain⟨o,g,_,n,k⟩:=x;obtain⟨l,e,_,m,f⟩:=y;rw[g]at e;cases e;rw[k]at f;injection f
theorem kr{h:Heap}{a:Addr}{i j:Array Value}(x:h.IsList a i)(y:h.IsTuple a j):False:=by
 obtain⟨o,g,k,_⟩:=x;obtain⟨l,e,f,_⟩:=y;rw[g]at e;cases e;rw[k]at f;simp at f
theorem xP{a b:ge}{v:Value}(g:dU a v=true)(f:dU b v=true):a=b:=by
 rcases aF g with⟨i,t,rfl,rfl⟩|⟨i,t,rfl,rfl⟩
 ·rcases aF f with⟨j,u,rfl,e⟩|⟨j,u,rfl,e⟩
  ·cases e;rfl
  ·cases e
 ·rcases aF f with⟨j,u,rfl,e⟩|⟨j,u,rfl,e⟩
  ·cases e
  ·cases e;rfl
theorem ja{a:ge}{b:Addr}(h:dU a (.ref b)=true):False:=by
 rcases aF h with⟨_,_,_,e⟩|⟨_,_,_,e⟩<;>cases e
theorem uy.inj{h:Heap}:∀(d:Nat) {x y:DT}{v:Value},x.depth<=d->uy h x v->uy h y v->x=y:=by
 have r:∀(d:Nat) (u:∀{x y:DT}{v:Value},x.depth<=d->uy h x v->uy h y v->x=y) (o n:List DT) (w:Zf),DT.depths o<=d->DAts h o w->DAts h n w->o=n:=by
  intro d u o
  induction o with
  |nil =>
   intro n w _ g f;have A:w=[]:=g;subst A;cases n with
   |nil=>rfl
   |cons y n=>obtain⟨_,_,e,_⟩:=f;cases e
  |cons x o B =>
   intro n w p g f;obtain⟨v,L,rfl,C,D⟩:=g;cases n with
   |nil=>have E:v::L=[]:=f;cases E
   |cons y n =>
    obtain⟨O,M,e,G,H⟩:=f;cases e;have N:max x.depth (DT.depths o)<=d:=p;rw[u (by omega) C G,B n L (by omega) D H]
 intro d
 induction d with
 |zero =>
  intro x y v p g f;cases x with
  |t l=>exact absurd p (by show ¬(DT.depths l+1<=0);omega)
  |s l=>exact absurd p (by show ¬(DT.depths l+1<=0);omega)
  |k a =>
   cases y with
   |k b=>rw[xP g f]
   |t l=>obtain⟨b,_,rfl,_⟩:=f;exact(ja g).elim
   |s l=>obtain⟨b,_,rfl,_⟩:=f;exact(ja g).elim
 |succ d u =>
  intro x y v p g f;cases x with
  |k a =>
   cases y with
   |k b=>rw[xP g f]
   |t l=>obtain⟨b,_,rfl,_⟩:=f;exact(ja g).elim
   |s l=>obtain⟨b,_,rfl,_⟩:=f;exact(ja g).elim
  |t l =>
   obtain⟨a,i,rfl,z,g⟩:=g;cases y with
   |k b=>exact(ja f).elim
   |t m =>
    obtain⟨I,j,e,q,f⟩:=f;cases e;rw[B9 q z]at f;rw[r d (fun J=>u J) l m i.toList (by have:DT.depths l+1<=d+1:=p;omega) g f]
   |s m =>
    obtain⟨I,j,e,q,f⟩:=f;cases e;exact(kr q z).elim
  |s l =>
   obtain⟨a,i,rfl,z,g⟩:=g;cases y with
   |k b=>exact(ja f).elim
   |s m =>
    obtain⟨I,j,e,q,f⟩:=f;cases e;rw[DF q z]at f;rw[r d (fun J=>u J) l m i.toList (by have:DT.depths l+1<=d+1:=p;omega) g f]
   |t m =>
    obtain⟨I,j,e,q,f⟩:=f;cases e;exact(kr z q).elim
theorem g8{l m:List DT}(g:l.length=m.length):((pT l.length).all fun j=>decide (l[j]?=m[j]?))=decide (l=m):=by
 by_cases e:l=m
 ·subst e;simp
 ·rw[zzr0 e];rw[List.all_eq_false];apply Classical.byContradiction;intro h;apply e;apply List.ext_getElem?;intro i;by_cases f:i<l.length
  ·apply Classical.byContradiction;intro a;exact h ⟨i,List.mem_range.mpr f,by simpa using a⟩
  ·rw[yV (by omega),yV (by omega)]
section
variable{s:Shared}
theorem Lk:∀(d:Nat) {A:Around}{x y:DT}{u v:Value},y.depth<=d->A.units+d<cLine->uy s.heap x u->uy s.heap y v->br A s u v (decide (x=y)):=by
 have leaves:∀{A:Around}{a b:ge}{u v:Value},dU a u=true->dU b v=true->br A s u v (decide (DT.k a=DT.k b)):=by
  intro A a b u v D I;have M:decide (DT.k a=DT.k b)=decide (a=b):=by
   by_cases e:a=b
   ·subst e;simp
   ·have:¬(DT.k a=DT.k b):=fun z=>e (by injection z);rw[zzr0 this,zzr0 e]
  rw[M];rcases aF D with⟨i,t,rfl,rfl⟩|⟨i,t,rfl,rfl⟩
  ·rcases aF I with⟨j,u,rfl,rfl⟩|⟨j,u,rfl,rfl⟩
   ·rw[Ap];exact br.int_int i t j u
   ·rw[Ao];exact br.int_str i t j u
  ·rcases aF I with⟨j,u,rfl,rfl⟩|⟨j,u,rfl,rfl⟩
   ·rw[Am];exact br.str_int i t j u
   ·rw[Al];have:=br.str_str (A:=A) (s:=s) i t j u;rwa[show(i==j)=decide (i=j)from by by_cases e:i=j<;>simp[e]]at this
 have kt:∀{A:Around}{a:ge}{u:Value}{b:Addr}{items:Array Value},A.units<cLine->dU a u=true->s.heap.IsTuple b items->br A s u (.ref b) false/\br A s (.ref b) u false:=by
  intro A a u b items p D C;rcases aF D with⟨i,t,rfl,rfl⟩|⟨i,t,rfl,rfl⟩
  ·exact⟨br.int_tuple i t C p,br.tuple_int i t C p⟩
  ·exact⟨br.str_tuple i t C p,br.tuple_str i t C p⟩
 have N:∀{A:Around}{a:ge}{u:Value}{b:Addr}{items:Array Value},A.units<cLine->dU a u=true->s.heap.IsList b items->br A s u (.ref b) false/\br A s (.ref b) u false:=by
  intro A a u b items p D C;rcases aF D with⟨i,t,rfl,rfl⟩|⟨i,t,rfl,rfl⟩
  ·exact⟨br.int_list i t C p,br.list_int i t C p⟩
  ·exact⟨br.str_list i t C p,br.list_str i t C p⟩
 intro d
 induction d with
 |zero =>
  intro A x y u v w p g f;cases y with
  |t l=>exact absurd w (by show ¬(DT.depths l+1<=0);omega)
  |s l=>exact absurd w (by show ¬(DT.depths l+1<=0);omega)
  |k b =>
   cases x with
   |t l =>
    obtain⟨a,i,rfl,h,_⟩:=g;rw[zzr0 (by intro z;cases z)];exact(kt (by omega) f h).2
   |s l =>
    obtain⟨a,i,rfl,h,_⟩:=g;rw[zzr0 (by intro z;cases z)];exact(N (by omega) f h).2
   |k a=>exact leaves g f
 |succ d U =>
  intro A x y u v w p g f;have items:∀{l m:List DT}{i j:Array Value},DT.depths m<=d->DAts s.heap l i.toList->DAts s.heap m j.toList->∀n (D:n<i.size) (I:n<j.size),br A.in1 s i[n] j[n] (decide (l[n]?=m[n]?)):=by
   intro l m i j J h B n D I;obtain⟨x,ex,g⟩:=h.get (i:=n) (v:=i[n]) (by simp[D]);obtain⟨y,T,f⟩:=B.get (i:=n) (v:=j[n]) (by simp[I]);rw[ex,T];have M:decide ((some x:Option DT)=some y)=decide (x=y):=by
    by_cases e:x=y
    ·subst e;simp
    ·rw[zzr0 e,zzr0 fun z=>e (f6 z)]
   rw[M];exact U (DT.depths_get J T) (by show A.units+1+d<cLine;omega) g f
  cases x with
  |k a =>
   cases y with
   |k b=>exact leaves g f
   |t l =>
    obtain⟨b,i,rfl,h,_⟩:=f;rw[zzr0 (by intro z;cases z)];exact(kt (by omega) g h).1
   |s l =>
    obtain⟨b,i,rfl,h,_⟩:=f;rw[zzr0 (by intro z;cases z)];exact(N (by omega) g h).1
  |t l =>
   have E:=g;obtain⟨a,i,rfl,h,g⟩:=g;cases y with
   |k b =>
    rw[zzr0 (by intro z;cases z)];exact(kt (by omega) f h).2
   |s m =>
    obtain⟨b,j,rfl,B,_⟩:=f;rw[zzr0 (by intro z;cases z)];exact br.tuple_list h B (by omega)
   |t m =>
    have J:DT.depths m<=d:=by have:DT.depths m+1<=d+1:=w;omega
    have G:=f;obtain⟨b,j,rfl,B,f⟩:=f;by_cases o:a=b
    ·subst o;have e:DT.t l=DT.t m:=uy.inj _ (aB _) E G;rw[zzr1 e];exact br.same _
    ·have r:=SeqAt.RcAt.tuples (A:=A) h B (by omega) (items J g f);have L:=g.length;have O:=f.length;simp only[lT]at L O;have q:((pT (min i.size j.size)).all (fun n=>decide (l[n]?=m[n]?)) && i.size==j.size)=decide (DT.t l=DT.t m):=by
      by_cases e:l.length=m.length
      ·have Q:i.size=j.size:=by omega
       rw[<-Q,Nat.min_self,<-L,g8 e];by_cases H:l=m
       ·subst H;simp
       ·have:¬(DT.t l=DT.t m):=fun z=>H (by injection z);rw[zzr0 this,zzr0 H];rfl
      ·have Q:(i.size==j.size)=false:=by simp;omega
       have:¬(DT.t l=DT.t m):=fun z=>e (by injection z with z;rw[z]);rw[Q,zzr0 this,Bool.and_false]
     rw[q]at r;exact .of_refs o r
  |s l =>
   have E:=g;obtain⟨a,i,rfl,h,g⟩:=g;cases y with
   |k b =>
    rw[zzr0 (by intro z;cases z)];exact(N (by omega) f h).2
   |t m =>
    obtain⟨b,j,rfl,B,_⟩:=f;rw[zzr0 (by intro z;cases z)];exact br.list_tuple h B (by omega)
   |s m =>
    have J:DT.depths m<=d:=by have:DT.depths m+1<=d+1:=w;omega
    have G:=f;obtain⟨b,j,rfl,B,f⟩:=f;by_cases o:a=b
    ·subst o;have e:DT.s l=DT.s m:=uy.inj _ (aB _) E G;rw[zzr1 e];exact br.same _
    ·have L:=g.length;have O:=f.length;simp only[lT]at L O;by_cases e:l.length=m.length
     ·have r:=SeqAt.RcAt.lists (A:=A) h B (by omega) (by omega) (items J g f);rw[<-L,g8 e]at r;have q:decide (l=m)=decide (DT.s l=DT.s m):=by
       by_cases H:l=m
       ·subst H;simp
       ·have:¬(DT.s l=DT.s m):=fun z=>H (by injection z);rw[zzr0 this,zzr0 H]
      rw[q]at r;exact .of_refs o r
     ·have:¬(DT.s l=DT.s m):=fun z=>e (by injection z with z;rw[z]);rw[zzr0 this];exact .of_refs o (SeqAt.RcAt.lists_lengths h B (by simp;omega) (by omega))
end
theorem Fe(a b:ge):decide (DT.k a=DT.k b)=decide (a=b):=by
 by_cases e:a=b
 ·subst e;simp
 ·rw[zzr0 e,zzr0 fun z=>e (by injection z)]
theorem Ll(l m:List DT):decide (DT.t l=DT.t m)=decide (l=m):=by
 by_cases e:l=m
 ·subst e;simp
 ·rw[zzr0 e,zzr0 fun z=>e (by injection z)]
theorem Lm(l m:List DT):decide (DT.s l=DT.s m)=decide (l=m):=by
 by_cases e:l=m
 ·subst e;simp
 ·rw[zzr0 e,zzr0 fun z=>e (by injection z)]
theorem Jc(x y:DT):decide ((some x:Option DT)=some y)=decide (x=y):=by
 by_cases e:x=y
 ·subst e;simp
 ·rw[zzr0 e,zzr0 fun z=>e (f6 z)]
section
variable{A:Around}{s:Shared}
theorem qV{d:Nat}(g:A.units+1+d<cLine){l m:List DT}{i j:Array Value}(h:DT.depths m<=d)(k:DAts s.heap l i.toList)(o:DAts s.heap m j.toList):
  ∀n (a:n<i.size) (e:n<j.size),br A.in1 s i[n] j[n] (decide (l[n]?=m[n]?)):=by
 intro n a e;obtain⟨x,ex,p⟩:=k.get (i:=n) (v:=i[n]) (by simp[a]);obtain⟨y,f,q⟩:=o.get (i:=n) (v:=j[n]) (by simp[e]);rw[ex,f,Jc];exact Lk d (DT.depths_get h f) g p q
theorem Es{l m:List DT}{i j:Array Value}(g:DAts s.heap l i.toList)(h:DAts s.heap m j.toList):((pT (min i.size j.size)).all (fun n=>decide (l[n]?=m[n]?)) && i.size==j.size)=decide (l=m):=by
 have f:=g.length;have k:=h.length;simp only[lT]at f k;by_cases e:l.length=m.length
 ·have a:i.size=j.size:=by omega
  rw[<-a,Nat.min_self,<-f,g8 e];simp
 ·have a:(i.size==j.size)=false:=by simp;omega
  rw[a,zzr0 fun z=>e (by rw[z]),Bool.and_false]
theorem Lj{x y:DT}{u v:Value}(q:y.depth<=14)(C:A.units+16<cLine)(o:uy s.heap x u)(f:uy s.heap y v):SeqAt.RcAt A s u v (decide (x=y)):=by
 cases x with
 |k a =>
  rcases aF (show dU a u=true from o)with⟨i,t,rfl,rfl⟩|⟨i,t,rfl,rfl⟩
  ·cases y with
   |k b =>
    rw[Fe];rcases aF (show dU b v=true from f)with⟨j,h,rfl,rfl⟩|⟨j,h,rfl,rfl⟩
    ·rw[Ap];exact SeqAt.RcAt.int_int i t j h
    ·rw[Ao];exact SeqAt.RcAt.int_str i t j h
   |t m=>obtain⟨b,j,rfl,g,_⟩:=f;rw[zzr0 (by intro z;cases z)];exact SeqAt.RcAt.int_tuple i t g (by omega)
   |s m=>obtain⟨b,j,rfl,g,_⟩:=f;rw[zzr0 (by intro z;cases z)];exact SeqAt.RcAt.int_list i t g (by omega)
  ·cases y with
   |k b =>
    rw[Fe];rcases aF (show dU b v=true from f)with⟨j,h,rfl,rfl⟩|⟨j,h,rfl,rfl⟩
    ·rw[Am];exact SeqAt.RcAt.str_int i t j h
    ·rw[Al];have:=SeqAt.RcAt.str_str (A:=A) (s:=s) i t j h;rwa[show(i==j)=decide (i=j)from by by_cases e:i=j<;>simp[e]]at this
   |t m=>obtain⟨b,j,rfl,g,_⟩:=f;rw[zzr0 (by intro z;cases z)];exact SeqAt.RcAt.str_tuple i t g (by omega)
   |s m=>obtain⟨b,j,rfl,g,_⟩:=f;rw[zzr0 (by intro z;cases z)];exact SeqAt.RcAt.str_list i t g (by omega)
 |t l =>
  obtain⟨a,i,rfl,n,o⟩:=o;cases y with
  |k b =>
   rw[zzr0 (by intro z;cases z)];rcases aF (show dU b v=true from f)with⟨j,h,rfl,rfl⟩|⟨j,h,rfl,rfl⟩
   ·exact SeqAt.RcAt.tuple_int j h n (by omega)
   ·exact SeqAt.RcAt.tuple_str j h n (by omega)
  |t m =>
   obtain⟨b,j,rfl,g,f⟩:=f;have p:DT.depths m<=13:=by have:DT.depths m+1<=14:=q;omega
   have r:=SeqAt.RcAt.tuples (A:=A) n g (by omega) (qV (by omega) p o f);rw[Es o f]at r;rw[Ll];exact r
  |s m=>obtain⟨b,j,rfl,g,_⟩:=f;rw[zzr0 (by intro z;cases z)];exact SeqAt.RcAt.tuple_list n g (by omega)
 |s l =>
  obtain⟨a,i,rfl,n,o⟩:=o;cases y with
  |k b =>
   rw[zzr0 (by intro z;cases z)];rcases aF (show dU b v=true from f)with⟨j,h,rfl,rfl⟩|⟨j,h,rfl,rfl⟩
   ·exact SeqAt.RcAt.list_int j h n (by omega)
   ·exact SeqAt.RcAt.list_str j h n (by omega)
  |t m=>obtain⟨b,j,rfl,g,_⟩:=f;rw[zzr0 (by intro z;cases z)];exact SeqAt.RcAt.list_tuple n g (by omega)
  |s m =>
   obtain⟨b,j,rfl,g,f⟩:=f;have p:DT.depths m<=13:=by have:DT.depths m+1<=14:=q;omega
   have w:=o.length;have B:=f.length;simp only[lT]at w B;rw[Lm];by_cases e:l.length=m.length
   ·have r:=SeqAt.RcAt.lists (A:=A) n g (by omega) (by omega) (qV (by omega) p o f);rw[<-w,g8 e]at r;exact r
   ·rw[zzr0 fun z=>e (by rw[z])];exact SeqAt.RcAt.lists_lengths n g (by simp;omega) (by omega)
theorem MI{x y:DT}{u v:Value}(q:y.depth<=14)(C:A.units+16<cLine)(o:uy s.heap x u)(f:uy s.heap y v):SeqAt.RcNeAt A s u v (!decide (x=y)):=by
 cases x with
 |k a =>
  rcases aF (show dU a u=true from o)with⟨i,t,rfl,rfl⟩|⟨i,t,rfl,rfl⟩
  ·cases y with
   |k b =>
    rw[Fe];rcases aF (show dU b v=true from f)with⟨j,h,rfl,rfl⟩|⟨j,h,rfl,rfl⟩
    ·rw[Ap];exact SeqAt.RcNeAt.int_int i t j h
    ·rw[Ao];exact SeqAt.RcNeAt.int_str i t j h
   |t m=>obtain⟨b,j,rfl,g,_⟩:=f;rw[zzr0 (by intro z;cases z)];exact SeqAt.RcNeAt.int_tuple i t g (by omega)
   |s m=>obtain⟨b,j,rfl,g,_⟩:=f;rw[zzr0 (by intro z;cases z)];exact SeqAt.RcNeAt.int_list i t g (by omega)
  ·cases y with
   |k b =>
    rw[Fe];rcases aF (show dU b v=true from f)with⟨j,h,rfl,rfl⟩|⟨j,h,rfl,rfl⟩
    ·rw[Am];exact SeqAt.RcNeAt.str_int i t j h
    ·rw[Al];have:=SeqAt.RcNeAt.str_str (A:=A) (s:=s) i t j h;rwa[show(i==j)=decide (i=j)from by by_cases e:i=j<;>simp[e]]at this
   |t m=>obtain⟨b,j,rfl,g,_⟩:=f;rw[zzr0 (by intro z;cases z)];exact SeqAt.RcNeAt.str_tuple i t g (by omega)
   |s m=>obtain⟨b,j,rfl,g,_⟩:=f;rw[zzr0 (by intro z;cases z)];exact SeqAt.RcNeAt.str_list i t g (by omega)
 |t l =>
  obtain⟨a,i,rfl,n,o⟩:=o;cases y with
  |k b =>
   rw[zzr0 (by intro z;cases z)];rcases aF (show dU b v=true from f)with⟨j,h,rfl,rfl⟩|⟨j,h,rfl,rfl⟩
   ·exact SeqAt.RcNeAt.tuple_int j h n (by omega)
   ·exact SeqAt.RcNeAt.tuple_str j h n (by omega)
  |t m =>
   obtain⟨b,j,rfl,g,f⟩:=f;have p:DT.depths m<=13:=by have:DT.depths m+1<=14:=q;omega
   have r:=SeqAt.RcNeAt.tuples (A:=A) n g (by omega) (qV (by omega) p o f);rw[Es o f]at r;rw[Ll];exact r
  |s m=>obtain⟨b,j,rfl,g,_⟩:=f;rw[zzr0 (by intro z;cases z)];exact SeqAt.RcNeAt.tuple_list n g (by omega)
 |s l =>
  obtain⟨a,i,rfl,n,o⟩:=o;cases y with
  |k b =>
   rw[zzr0 (by intro z;cases z)];rcases aF (show dU b v=true from f)with⟨j,h,rfl,rfl⟩|⟨j,h,rfl,rfl⟩
   ·exact SeqAt.RcNeAt.list_int j h n (by omega)
   ·exact SeqAt.RcNeAt.list_str j h n (by omega)
  |t m=>obtain⟨b,j,rfl,g,_⟩:=f;rw[zzr0 (by intro z;cases z)];exact SeqAt.RcNeAt.list_tuple n g (by omega)
  |s m =>
   obtain⟨b,j,rfl,g,f⟩:=f;have p:DT.depths m<=13:=by have:DT.depths m+1<=14:=q;omega
   have w:=o.length;have B:=f.length;simp only[lT]at w B;rw[Lm];by_cases e:l.length=m.length
   ·have r:=SeqAt.RcNeAt.lists (A:=A) n g (by omega) (by omega) (qV (by omega) p o f);rw[<-w,g8 e]at r;exact r
   ·rw[zzr0 fun z=>e (by rw[z])];exact SeqAt.RcNeAt.lists_lengths n g (by simp;omega) (by omega)
end
mutual
def wB(K:Za)(H:Hp):DT->V->Prop
 |.k a,v=>v=kV a
 |.t l,v=>∃b xs,v=.ref b/\bT K H b xs/\DIns K H l xs
 |.s l,v=>∃b xs,v=.ref b/\ay K H b xs/\DIns K H l xs
def DIns(K:Za)(H:Hp):List DT->List V->Prop
 |[],vs=>vs=[]
 |k::r,vs=>∃v us,vs=v::us/\wB K H k v/\DIns K H r us
end
section
variable{X:Cx}{J5:Zd}{σ:St}{H:Hp}{s:Shared}
theorem lb(I:Inv X J5 σ H s):∀(d:Nat) {k:DT}{v:V}{u:Value},k.depth<=d->wB X.K H k v->RelV v u->uy s.heap k u:=by
 have h:∀(d:Nat) (i:∀{k:DT}{v:V}{u:Value},k.depth<=d->wB X.K H k v->RelV v u->uy s.heap k u) (ks:List DT) (j:List V) (o:Zf),DT.depths ks<=d->DIns X.K H ks j->bg j o->DAts s.heap ks o:=by
  intro d i ks
  induction ks with
  |nil =>
   intro j o _ f r;have e:j=[]:=f;subst e;cases r
   rfl
  |cons k ks p =>
   intro j o g f r;obtain⟨v,q,rfl,m,C⟩:=f;cases r with
   |@cons _ u _ n D E =>
    have G:max k.depth (DT.depths ks)<=d:=g;exact⟨u,n,rfl,i (by omega) m D,p q n (by omega) C E⟩
 intro d
 induction d with
 |zero =>
  intro k v u g f r;cases k with
  |t l=>exact absurd g (by show ¬(DT.depths l+1<=0);omega)
  |s l=>exact absurd g (by show ¬(DT.depths l+1<=0);omega)
  |k b =>
   have e:v=kV b:=f;subst e;exact qQ (P:=X.prog) (w:=X.w) r
 |succ d i =>
  intro k v u g f r;cases k with
  |k b =>
   have e:v=kV b:=f;subst e;exact qQ (P:=X.prog) (w:=X.w) r
  |t l =>
   obtain⟨b,x,rfl,y,z⟩:=f;cases(show u=Value.ref b from r);obtain⟨a,A,B,_⟩:=I.tuple y;exact⟨b,a.toArray,rfl,B,by simpa using h d (fun m=>i m) l x a (by have:DT.depths l+1<=d+1:=g;omega) z A⟩
  |s l =>
   obtain⟨b,x,rfl,y,z⟩:=f;cases(show u=Value.ref b from r);obtain⟨a,A,B,_⟩:=I.list y;exact⟨b,a.toArray,rfl,B.isList,by simpa using h d (fun m=>i m) l x a (by have:DT.depths l+1<=d+1:=g;omega) z A⟩
theorem qX(I:Inv X J5 σ H s):∀{a:List DT}{f:List V}{g:Zf},DT.depths a<=8->DIns X.K H a f->bg f g->DAts s.heap a g
 |[],f,g,_,h,r=>by
  have e:f=[]:=h;subst e;cases r
  rfl
 |k::a,f,g,j,h,r=>by
  obtain⟨v,l,rfl,m,n⟩:=h;cases r with
  |@cons _ u _ i o p =>
   have q:max k.depth (DT.depths a)<=8:=j;exact⟨u,i,rfl,lb I 8 (by omega) m o,qX I (by omega) n p⟩
end
def w6(K:Za):R2:=fun x y H Q=>∃d e:DT,wB K H d x/\wB K H e y/\d.depth<=8/\e.depth<=8/\Q (.bl (decide (d=e))) H
def LH(K:Za):R2:=fun x y H Q=>∃d e:DT,wB K H d x/\wB K H e y/\d.depth<=8/\e.depth<=8/\Q (.bl (!decide (d=e))) H
section
variable{X:Cx}
theorem k6(f:X.A.units+16<cLine):nL X (fO .Eq) (w6 X.K):=by
 intro m s σ H x y v u Q I g i h;obtain⟨d,e,j,k,l,a,q⟩:=h;exact Lj (aD a (by decide)) f (lb I 8 l j g) (lb I 8 a k i) X.prog X.w X.xe _ ⟨.bl _,H,I,rfl,q⟩
theorem Ip(f:X.A.units+16<cLine):nL X (fO .NotEq) (LH X.K):=by
 intro m s σ H x y v u Q I g i h;obtain⟨d,e,j,k,l,a,q⟩:=h;exact MI (aD a (by decide)) f (lb I 8 l j g) (lb I 8 a k i) X.prog X.w X.xe _ ⟨.bl _,H,I,rfl,q⟩
def z6(K:Za):R2:=fun x y H Q=>∃d e:DT,wB K H d x/\wB K H e y/\d.depth<=40/\e.depth<=14/\Q (.bl (decide (d=e))) H
theorem sf(f:X.A.units+16<cLine):nL X (fO .Eq) (z6 X.K):=by
 intro m s σ H x y v u Q I g i h;obtain⟨d,e,j,k,l,a,q⟩:=h;exact Lj a f (lb I 40 l j g) (lb I 14 a k i) X.prog X.w X.xe _ ⟨.bl _,H,I,rfl,q⟩
def vw(K:Za)(neg:Bool):R2:=fun x y H Q=>∃(d:DT) (ds:List DT) (p:Addr) (xs:List V),wB K H d x/\y=.ref p/\(ay K H p xs∨bT K H p xs)/\DIns K H ds xs/\d.depth<=8/\DT.depths ds<=8/\Q (.bl (if neg then !decide (d∈ds)else decide (d∈ds))) H
open Classical in
theorem qZ{h:Heap}{d:DT}(g:d.depth<=8):∀{a:List DT}{f:Zf},DAts h a f->DT.depths a<=8->f.any (fun u=>@decide (uy h d u) (propDecidable _))=decide (d∈a)
 |[],f,e,_=>by
  have j:f=[]:=e;subst j
  rfl
 |x::a,f,e,k=>by
  obtain⟨u,l,rfl,i,m⟩:=e;have o:max x.depth (DT.depths a)<=8:=k;rw[yZ,qZ g m (by omega)];by_cases q:d=x
  ·subst q;simp[i]
  ·have n:¬uy h d u:=fun z=>q (uy.inj 8 g z i);simp[n,q]
open Classical in
theorem vK{A:Around}{s:Shared}{d:DT}{v:Value}(g:d.depth<=8)(i:A.units+8<cLine)(j:uy s.heap d v):∀{f:List DT}{a:Zf},DAts s.heap f a->DT.depths f<=8->∀u∈a,br A s u v (@decide (uy s.heap d u) (propDecidable _))
 |[],a,e,_,u,hm=>by
  have k:a=[]:=e;subst k;cases hm
 |x::f,a,e,l,u,hm=>by
  obtain⟨r,m,rfl,h,o⟩:=e;have p:max x.depth (DT.depths f)<=8:=l;rcases cn.mp hm with rfl|hm
  ·have q:=Lk 8 (A:=A) g i h j;by_cases z:x=d
   ·subst z;rw[zzr1 h];rwa[zzr1 rfl]at q
   ·have n:¬uy s.heap d u:=fun w=>z (uy.inj 8 g w h).symm;rw[zzr0 n];rwa[zzr0 z]at q
  ·exact vK g i j o (by omega) u hm
theorem Ad(B:X.A.units+16<cLine):nL X (fO .In) (vw X.K false):=by
 intro C s σ H x y v u Q I n o h;obtain⟨d,D,p,E,t,rfl,hq,e,f,a,q⟩:=h;cases o;have m:=lb I 8 f t n;have g:X.A.in1.units+8<cLine:=by show X.A.units+1+8<cLine;omega
 rcases hq with hq|hq
 ·obtain⟨j,r,k,z⟩:=I.list hq;have i:=qX I a e r;refine SeqAt.in_listAt _ k.isList (fun w l=>vK f g m i a w (by simpa using l)) ⟨.bl _,H,I,rfl,?_⟩;rw[yU,qZ f i a];exact q
 ·obtain⟨j,r,k,z⟩:=I.tuple hq;have i:=qX I a e r;refine SeqAt.in_tupleAt _ k (fun w l=>vK f g m i a w (by simpa using l)) ⟨.bl _,H,I,rfl,?_⟩;rw[yU,qZ f i a];exact q
theorem nC(B:X.A.units+16<cLine):nL X (fO .NotIn) (vw X.K true):=by
 intro C s σ H x y v u Q I n o h;obtain⟨d,D,p,E,t,rfl,hq,e,f,a,q⟩:=h;cases o;have m:=lb I 8 f t n;have g:X.A.in1.units+8<cLine:=by show X.A.units+1+8<cLine;omega
 rcases hq with hq|hq
 ·obtain⟨j,r,k,z⟩:=I.list hq;have i:=qX I a e r;refine SeqAt.notIn_listAt _ k.isList (fun w l=>vK f g m i a w (by simpa using l)) ⟨.bl _,H,I,rfl,?_⟩;rw[yU,qZ f i a];exact q
 ·obtain⟨j,r,k,z⟩:=I.tuple hq;have i:=qX I a e r;refine SeqAt.notIn_tupleAt _ k (fun w l=>vK f g m i a w (by simpa using l)) ⟨.bl _,H,I,rfl,?_⟩;rw[yU,qZ f i a];exact q
end
def vX(z:Str)(lo hi:Option Int):Str:=⟨((z.cps.toList.drop (HT.sIx z.length 0 lo)).take (HT.sIx z.length z.length hi-HT.sIx z.length 0 lo)).toArray⟩
theorem sliceRange_one(a b:Nat):sliceRange (a:Int) (b:Int) 1=(pT (b-a)).map (fun k=>a+k):=by
 unfold sliceRange;simp only[show(1:Int) > 0 from by decide,if_true];by_cases h:(a:Int)<(b:Int)
 ·have e:(if(a:Int)<(b:Int)then((b:Int)-a+1-1) / 1 else 0).toNat=b-a:=by rw[if_pos h];omega
  rw[e];exact List.map_congr_left fun k _=>by omega
 ·have e:(if(a:Int)<(b:Int)then((b:Int)-a+1-1) / 1 else 0).toNat=b-a:=by rw[if_neg h];omega
  rw[e];exact List.map_congr_left fun k _=>by omega
theorem Cr(v:Option Int)(n d:Nat):(match v with|none=>(d:Int)|some i=>max 0 (min (if i<0 then i+(n:Int)else i) (n:Int)))=((HT.sIx n d v:Nat):Int):=by
 cases v with
 |none=>rfl
 |some i =>
  rw[<-HT.clip_eq i n d];dsimp only;by_cases h:i<0
  ·rw[if_pos h,if_pos h];omega
  ·rw[if_neg h,if_neg h];omega
theorem qr(lo a:Option Int)(n:Nat):uT lo a 1 n=(pT (HT.sIx n n a-HT.sIx n 0 lo)).map (fun k=>HT.sIx n 0 lo+k):=by
 have e:=Cr lo n 0;have f:=Cr a n n;rw[<-sliceRange_one,<-e,<-f];unfold uT;simp only[show(1:Int) > 0 from by decide,if_true];cases lo<;>cases a<;>rfl
theorem FN(z:Str)(lo e:Option Int):Txt.slice z lo e=vX z lo e:=by
 have l:HT.sIx z.length 0 lo<=z.length:=HT.sIx_le _ _ (cL _) _;have m:HT.sIx z.length z.length e<=z.length:=HT.sIx_le _ _ (aB _) _;have g:z.cps.toList.length=z.length:=by simp[Str.length]
 have f:(uT lo e 1 z.length).filterMap (z.cps[·]?)=(z.cps.toList.drop (HT.sIx z.length 0 lo)).take (HT.sIx z.length z.length e-HT.sIx z.length 0 lo):=by
  rw[qr];generalize HT.sIx z.length 0 lo=a at *;generalize HT.sIx z.length z.length e=b at *;have h:=StrLaws.picks z.cps.toList (b-a) a (by omega);simpa using h
 unfold Txt.slice;by_cases h:((1:Int)==1 && (uT lo e 1 z.length).length==z.length)=true
 ·rw[if_pos h];have i:(uT lo e 1 z.length).length=z.length:=by simpa using h
  rw[qr,ah,List.length_range]at i;unfold vX;have j:HT.sIx z.length 0 lo=0:=by omega
  have k:HT.sIx z.length z.length e-HT.sIx z.length 0 lo=z.cps.toList.length:=by omega
  rw[k,j,uS,bb]
 ·rw[if_neg h];unfold vX;rw[f]
section
variable{X:Cx}
def Kn:V->Option Int->Option Int->Hp->VK->Prop:=fun x lo hi H Q=>∃z,x=.str z/\z.length<=aj/\Q (.str (vX z lo hi)) H
theorem Dg:SlR X Kn:=by
 intro g s σ H x v m n lo p r Q I y B C f h;obtain⟨z,rfl,D,q⟩:=h;obtain⟨t,rfl⟩:=y;rw[<-FN]at q;refine⟨"str",_,F.slot_str_getitem.lookup,typeIs_str _ _ _,?_⟩;obtain⟨o,E,G,J⟩:=B;have a:∀(l u:Option (Int×Tok)),m=partValue l->n=partValue u->lo=l.map (·.1)->p=u.map (·.1)->wpAny (model X.prog X.w) X.A (oP (.str z t) (.ref r)) (EP X g σ Q) X.xe s:=by
  rintro l u rfl rfl rfl rfl;refine wpAny_getItem_str_slice (l:=l) (u:=u) (st:=none) ⟨o,E,G,J⟩ rfl (post_val_or_str ⟨aD (Txt.slice_le z _ _) D,fun e k=>⟨.str _,H,I.tok _,⟨_,rfl⟩,q⟩⟩)
 cases C with
 |none =>
  cases f with
  |none=>exact a none none rfl rfl rfl rfl
  |int j u=>exact a none (some (j,u)) rfl rfl rfl rfl
 |int i e =>
  cases f with
  |none=>exact a (some (i,e)) none rfl rfl rfl rfl
  |int j u=>exact a (some (i,e)) (some (j,u)) rfl rfl rfl rfl
def Ld(K:Za):V->List V->Hp->VK->Prop:=fun x vs H Q=>∃z p ys,x=.str z/\vs=[.ref p]/\ay K H p (ys.map V.str)/\(ys.map (·.length)).sum+ys.length * z.length<=16777216/\Q (.str (yT z ys)) H
theorem JT{a:Zb}:∀{us:Zf},bg (a.map V.str) us->StrsAre us a:=by
 induction a with
 |nil=>intro us r;cases r;exact .nil
 |cons y a e =>
  intro us r;cases r with
  |cons f g =>
   obtain⟨t,rfl⟩:=f;exact .cons _ _ (e g)
theorem KD:Mj X "str.join" (Ld X.K):=by
 intro m s σ H x n v o Q I a e h;obtain⟨z,p,w,rfl,rfl,f,g,q⟩:=h;obtain⟨t,rfl⟩:=a;obtain⟨u,rfl,i⟩:=e.one;cases i;obtain⟨j,r,l,_⟩:=I.list f;exact join_list l.isList (by simpa using JT r) g fun y k=>⟨.str _,H,I.tok _,⟨_,rfl⟩,q⟩
end
section
variable{X:Cx}
theorem LZ{bs:List Bool}{a:Zf}(r:bg (bs.map V.bl) a){i:Nat}{v:Value}(h:a[i]?=some v):v=.bool ((bs[i]?).getD false)/\i<bs.length:=by
 have k:i<a.length:=(cj.mp h).1;have g:=r.length;rw[ah]at g;have e:i<bs.length:=by omega
 obtain⟨u,f,j⟩:=r.get (i:=i) (x:=V.bl bs[i]) (by simp[e]);rw[h]at f;cases f;refine⟨?_,e⟩;rw[bM e];exact j
theorem AL(bs:List Bool):((pT bs.length).all fun i=>(bs[i]?).getD false)=bs.all id:=by
 induction bs with
 |nil=>rfl
 |cons b bs a =>
  rw[gC,List.range_succ_eq_map,List.all_cons,List.all_map,List.all_cons,<-a]
  rfl
theorem tE(m:X.calm=true):g9 X (.builtin "all") (fun j H Q=>∃(p:Addr) (bs:List Bool),j=[.ref p]/\ay X.K H p (bs.map V.bl)/\Q (.bl (bs.all id)) H):=by
 intro t s σ H j G Q I r h;obtain⟨p,bs,rfl,x,q⟩:=h;obtain⟨u,rfl,y⟩:=vals1 r;cases y;obtain⟨a,k,f,J⟩:=I.list x;obtain⟨o,n,z,_⟩:=id f;have l:=k.length;rw[ah]at l;refine call_all_walk (uC f.isList ?_);refine⟨s.heap.objs.size,_,_,_,_,_,fun i=>(bs[i]?).getD false,rfl,Walks.list (prog:=X.prog) (w:=X.w) (A:=X.A.in1) (I.ok.hd m) s.heap.objs.size p (cX (aM z)) a.toArray,⟨⟨_,dh _ rfl,rfl,rfl⟩,f.isList.push _⟩,?_,?_⟩
 ·intro i v L M N B g;obtain⟨e,_⟩:=LZ k (i:=i) (v:=v) (by simpa using B);rw[e];exact uO g
 ·intro C tk D;have E:Inv X t σ H { s with heap:=C,toks:=tk }:=I.kept fun b o e=>D b o (by simp;exact cX (aM e)) (a_ _ e);rw[cf,<-l,AL];exact⟨.bl _,H,E,rfl,q⟩
theorem Dv:nL X (fO .In) (fun x y H Q=>∃c j,x=.str ⟨#[c]⟩/\y=.str j/\Q (.bl (decide (c∈j.cps.toList))) H):=by
 intro a s σ H x y v u Q I e f h;obtain⟨c,j,rfl,rfl,q⟩:=h;rw[<-StrLaws.found_one]at q;exact Gi a s σ H _ _ v u Q I e f ⟨_,_,rfl,rfl,q⟩
theorem wb(T:X.calm=true):g9 X (.type "list") (fun M H Q=>∃(d:Addr) (f:List (ge×V)),M=[.ref d]/\Rd H d (.dK f)/\∀l,H l=none->Q (.ref l) (upd H l (.lst (f.map fun g=>kV g.1)))):=by
 intro J5 s σ H M us Q I r h;obtain⟨d,f,rfl,U,q⟩:=h;obtain⟨u,rfl,Y⟩:=vals1 r;cases Y;obtain⟨z,n,N,y,dd⟩:=qW I.hok U;obtain⟨ep,E⟩:=dd.dictAt;have hl:=y.length;refine PySem.W.kdl_call (PySem.W.kdl_dict (knd:=cI X.prog X.w) (kvs:=N) (ep:=ep) n) (I.ok.hd T) E (by rw[<-hl];exact z) fun h' tk m c G hD A=>?_;have B:bg (f.map fun g=>kV g.1) m.toList:=by
  obtain⟨hn,hP⟩:=A;have J:∀(a:Zf) (L:List (ge×V)) (C:List (ge×Value)),KV L C->a.length=C.length->(∀(j:Nat) (v:Value),a[j]?=some v->∃k x,C[j]?=some (k,x)/\(cI X.prog X.w).is k v=true)->bg (L.map fun g=>kV g.1) a:=by
   intro a L C rl
   induction rl generalizing a with
   |nil=>intro D _;cases a with
    |nil=>exact .nil
    |cons _ _=>cases D
   |@cons p w' ps al hp _ ih =>
    intro D O;cases a with
    |nil=>cases D
    |cons v a =>
     obtain⟨k,x,e,G⟩:=O 0 v rfl;have e':w'=(k,x):=by simpa using e
     refine .cons ?_ (ih a (by simpa using D) fun j v B=>by simpa using O (j+1) v (by simpa using B));have ek:p.1=k:=by rw[hp.1,e']
     show RelV (kV p.1) v;rw[ek];rcases aF (show dU k v=true from G)with⟨i,t,rfl,rfl⟩|⟨i,t,rfl,rfl⟩
     ·exact⟨t,rfl⟩
     ·exact⟨t,rfl⟩
  exact J m.toList f N y (by rw[lT];exact hn) fun j v B=>hP j v (by rw[<-Array.getElem?_toList];exact B)
 refine⟨.ref s.heap.objs.size,_,I.laid (o:=.lst (f.map fun g=>kV g.1)) G (aB _) ⟨by rw[ah];exact z,m.toList,c,B,by rw[Array.toArray_toList];exact hD⟩,rfl,q _ I.fresh⟩
end
section
variable{prog:bZ}{w:World}{K:Type}[DecidableEq K]{knd:HeapKind prog w K}{A:Around}{E:Zc}{s:Shared}
theorem u8{d a:Addr}{h:List (K×Addr×Value)}{k:K}{v:Value}{Q:Zc}(u:knd.room A)(f:knd.is s.heap k a)(C:s.heap.DictOfH knd d h)
  (there:∀p,atKey h k=some p->Q p.2 { s with toks:=s.toks+knd.draws k })
  (new:atKey h k=none->∀r,r.DictOfH knd d (h++[(k,a,v)])->iT d s.heap r->Q v { s with heap:=r,toks:=s.toks+knd.draws k })
  (D:h.length<=aj):wpAny (model prog w) A (dictSetDefault d (.ref a) v) Q E s:=by
 obtain⟨o,I,G,i,H,g,q,l,t⟩:=C;unfold dictSetDefault
 try with_reducible refine j6 ?_
 refine am (knd.pyHash u f ?_);refine am (wpAny_dictFind_heap (s:={ s with toks:=s.toks+knd.draws k }) u f i g q l t ?_ ?_)
 ·intro m;have n:k∉h.map (·.1):=not_mem_keys_of_get m;refine am (sY (am (wpAny_updateDictKeys (hz:=by have e:=size_of_entries q;omega) (s:={ s with toks:=s.toks+knd.draws k }) i g (aR (new (atKey_none_of_get m) _ ⟨_,_,G+1,mm _ i (Obj.isFreed_of_dict (Obj.data_mapDictKeys g _)),
   H.mapDictKeys _,Obj.data_mapDictKeys g _,?_,?_,?_⟩ (rB ..))))))
  ·simp[q,entryOfKey]
  ·intro x hx;rcases bL.mp hx with hx|hx
   ·exact knd.keeps (l x hx) i g (rB ..)
   ·simp only[eE]at hx;subst hx;exact knd.keeps f i g (rB ..)
  ·rw[ax,d7];refine⟨t,by simp,?_⟩;intro x hx y z;simp only[bF,yX,eE]at z;subst z;exact fun e=>n (e▸hx)
 ·intro j p B;refine am (yS (s:={ s with toks:=s.toks+knd.draws k }) i g ?_);rw[entry_at q j,B];exact am (sY (aR (there p (atKey_of_get t B))))
theorem qO(knd:HeapKind prog w K)(d a:Addr)(l:(d==iU)=false)(dflt:Value):
  MeetsIn prog w (cc.«dict.setdefault» ⟨[.ref d,.ref a,dflt],[]⟩) (fun A R s=>knd.room A.in1/\∃k e,knd.is s.heap k a/\s.heap.DictOfH knd d e/\e.length<=aj /\
   (∀p,atKey e k=some p->R (.ok (.ret p.2)) { s with toks:=s.toks+knd.draws k }) /\
   (atKey e k=none->∀f,f.DictOfH knd d (e++[(k,a,dflt)])->iT d s.heap f->R (.ok (.ret dflt)) { s with heap:=f,toks:=s.toks+knd.draws k })) :=
 .of_wp fun A R s ⟨m,k,e,g,j,n,o,q⟩=>by
  unfold cc.«dict.setdefault»;refine am ?_;unfold cc.Dict.keyAndDefault;refine am (wpAny_notOrdered_dict j.typeIs ?_);show wpAny _ _ (pure (d,Value.ref a,some dflt)) _ _ s;refine aR ?_;show wpAny _ _ (if(d==iU)=true then _ else(dictSetDefault d (.ref a) dflt >>= _)) _ _ s
  rw[if_neg (by rw[l];exact jc)];exact am (u8 m g j (fun p r=>aR ⟨p.2,rfl,o p r⟩) (fun t f h i=>aR ⟨dflt,rfl,q t f h i⟩) n)
end
section
variable{X:Cx}
def Ex:V->List V->Hp->VK->Prop:=fun x vs H Q=>∃(d b:Addr) (kvs:List (TK×V)) (k:TK) (z:V),x=.ref d/\vs=[.ref b,z]/\H d=some (.dT kvs)/\eR H k (.ref b)/\k.depth<=8/\kvs.length<aj /\
 (∀v,bu kvs k=some v->Q v H)/\(bu kvs k=none->Q z (upd H d (.dT (kvs++[(k,z)]))))
theorem Go(D:X.A.units+16<cLine):Mj X "dict.setdefault" Ex:=by
 intro J5 s σ H x vs v us Q I E G h;obtain⟨d,b,a,k,z,rfl,rfl,l,q,j,hz,J,L⟩:=h;cases E;obtain⟨u,v,rfl,M,r⟩:=G.two;cases M;obtain⟨_,g,m,f,t⟩:=I0 I.hok I.kIn l;have hl:a.length=m.length:=Paired.length f;refine uX PySem.F.slot_dict_setdefault t.typeIs PySem.F.entry_dict_setdefault (PySem.F.args_dict_setdefault_3 _ _ _) (qO (fx X.prog X.w) d b g v)
  ⟨gF D,k,m,An I.hok I.kIn (eR.c 8 j q) j,t,by omega,fun p N=>?_,fun O h' n T=>?_⟩
 ·have e:=f.val k;rw[N]at e;cases i:bu a k with
  |none=>rw[i]at e;exact e.elim
  |some y =>
   rw[i]at e;exact⟨y,H,I.tok _,e,J y i⟩
 ·have e:=f.val k;rw[O]at e;have i:bu a k=none:=by
   cases i:bu a k with
   |none=>rfl
   |some y=>rw[i]at e;exact e.elim
  obtain⟨o,U,Y,B,h2,h3,h4,_,h5⟩:=n;refine⟨z,_,ux (ob:=.dT (a++[(k,z)])) I (by rw[l];exact sS) T ⟨o,B⟩ ⟨by rw[aO,List.length_singleton];omega,g,_,KT.keeps (kvs:=a++[(k,z)]) (xs:=m++[(k,b,v)]) (d_ f ⟨rfl,eR.c 8 j q,j,r⟩) fun c ys C=>?_,o,U,Y,B,h2,h3,h4,h5⟩,r,L i⟩;rw[ai (IB C l (fun z=>nomatch z))];exact C
end
theorem mM:entryFor table "dict.update.loop"=some cc.«dict.update.loop»:=entryFor_of_fast (by kernel_rfl)
theorem gW:plainId "dict.update.loop"=true:=by decide +kernel
theorem Ag:u3 (.type "list") "keys"=pure none:=am_miss_of_fast (by decide +kernel)
section
variable{prog:bZ}{w:World}{A:Around}{E:Zc}{s:Shared}
theorem Gq{a:Addr}{o:Obj}{m:Array Value}{k:Nat}{Q:Option Value->Shared->Prop}(n:s.heap.get? a=some o)(p:o.cls=.type "list")(f:o.data=.seq m k)(q:o.dict=none)(u:A.handled=none)
  (h:∀l tk,(∀b r,s.heap.get? b=some r->l.get? b=some r)->Q none { s with heap:=l,toks:=tk }):wpAny (model prog w) A (getAttr? (.ref a) "keys") Q E s:=by
 obtain⟨c,v,x,y⟩:=o;simp only at p f q;subst p f q;obtain⟨z,g,d,tk,os⟩:=s;have t:∀i,(⟨z,g,d,i,os⟩:Shared).TypeIs (.ref a) "list":=fun _=>⟨_,n,rfl⟩;have B:=sub_AttributeError;have C:=F.slot_list_getattribute.lookup;have D:=F.slot_list_getattribute.bind (.ref a);have G:=am_list_getattr_none;unfold getAttr? getAttrBy? getAttrBy
 repeat (any_goals (first|assumption|exact t _|((with_reducible show wpAny _ _ (call (Value.builtin "list.__getattribute__") _ _) _ _ _);refine uZ F.slot_list_getattribute (t _) am_entry_list_getattribute (F.args_list_getattribute_2 _ _) (meets_getattribute_miss_list a m k y "keys" _ Ag (by decide +kernel) (by decide +kernel)) ⟨n,u,fun l i e j=>?_⟩)|wp_step))
 obtain⟨H,I,J⟩:=j.there;show wpAny _ _ (getattributeRaised _ _ _ _ _ _ _) _ _ _;unfold getattributeRaised hookOrError attributeErrorLeaves
 repeat (any_goals (first|assumption|wp_step))
 all_goals first|exact h _ _ j.keeps|trace_state
def DW(h:Heap)(u:Value)(kv:ge×Value):Prop:=∃t ku,u=.ref t/\h.IsTuple t #[ku,kv.2]/\dU kv.1 ku=true
theorem Dd{κ:Type}[DecidableEq κ](a:List (κ×Value))(k:κ)(v:Value):(stored a k v).length<=a.length+1:=by
 unfold stored;split
 ·rw[ah];omega
 ·rw[aO,List.length_singleton];exact aB _
theorem Ho{R:Result->Shared->Prop}(hh:A.handled=none){D it l:Addr}{items:Array Value}{ps:List (ge×Value)}(B:D≠it)(T:l≠it)(U:l≠D)(ba:ps.length=items.size):
  ∀(n i:Nat) (s:Shared) (a:List (ge×Value)),items.size-i=n->i<=items.size->a.length+(items.size-i)<=aj->s.heap.IsListIter it l i->s.heap.IsList l items->s.heap.DictOf (cI prog w) D a ->
   (∀(j:Nat) (u:Value) (N:ge×Value),items[j]?=some u->ps[j]?=some N->DW s.heap u N) ->
   (∀z tk,z.DictOf (cI prog w) D (merged a (ps.drop i))->(∀b o,b≠D->b≠it->s.heap.get? b=some o->z.get? b=some o)->R (.ok (.ret .none)) { s with heap:=z,toks:=tk }) ->
   zzl77 (model prog w) A (.builtin "dict.update.loop" ⟨[.ref D,.ref it,rawInt i,.none],[]⟩) R s:=by
 intro n
 induction n with
 |zero =>
  intro i s a hn hi hz p O Q Y hR;have e:i=items.size:=by omega
  subst e;refine l9 mM ?_;rw[l7 gW _];show wpAny _ A.in1 (pyNext (.ref it) >>= _) _ _ s;refine am (wpAny_pyNext_list_end hh p O (by simp) fun z eb=>?_);show wpAny _ _ (cc.Dict.addKeywords D [] >>= _) _ _ _;refine am (aR (aR ?_));have C:z.DictOf (cI prog w) D a:=Q.extBut eb B;have q:=hR z s.toks (by rw[rA (by omega)];exact C) fun b o _ hb e=>eb b o hb e;exact q
 |succ n ih =>
  intro i s a hn hi hz p O Q Y hR;have I:i<items.size:=by omega
  refine l9 mM ?_;rw[l7 gW _];show wpAny _ A.in1 (pyNext (.ref it) >>= _) _ _ s;have hu:items[i]?=some items[i]:=by simp[I]
  have hk:ps[i]?=some ps[i]:=bM (by omega);obtain⟨t,ku,eu,ht,al⟩:=Y i _ _ hu hk;refine am (wpAny_pyNext_list_item p O (x:=items[i]) hu fun h J an=>?_);rw[eu];have m:iT it s.heap h:=an;have nt:t≠it:=by
   rintro rfl;obtain⟨o,G,L,_⟩:=ht;obtain⟨o',f,g,_⟩:=p;rw[G]at f;cases f;rw[L]at g;simp at g
  have M:h.IsTuple t #[ku,ps[i].2]:=ht.extBut m.extBut nt;have ap:Shared.TypeIs { s with heap:=h } (.ref t) "tuple":=M.typeIs (s:={ s with heap:=h });obtain⟨ot,as,bc,bd,aC⟩:=id M;refine am (j6 ?_);refine am (wpAny_tryCatch ?_);unfold cc.Dict.pairItems;refine am (yR ap ?_);rw[if_pos (by decide)];refine am (ow as aC (aR ?_));show wpAny _ _ (lU [ku,ps[i].2] (dictSet D ku ps[i].2)) _ _ _;have a0:h.DictOf (cI prog w) D a:=Q.extBut m.extBut B;refine j6 (wpAny_dictSet_pairs (knd:=cI prog w) (k:=ps[i].1) al a0 (fun y a4 a5=>?_) (by omega));have v:iT D h y:=a5;show wpAny _ _ (again _) _ _ _;refine aR ⟨oK gW _,?_⟩;have a6:h.IsList l items:=O.extBut m.extBut T;have kp:∀b o,b≠D->b≠it->s.heap.get? b=some o->y.get? b=some o:=fun b o h y e=>v.extBut b o h (m.extBut b o y e);refine ih (i+1) _ (stored a ps[i].1 ps[i].2) (by omega) I (by have:=Dd a ps[i].1 ps[i].2;omega) (J.extBut v.extBut (b_ B)) (a6.extBut v.extBut U) a4 (fun j u N h y=>?_) fun z tk C a7=>?_
  ·obtain⟨t2,a8,e2,H,a9⟩:=Y j u N h y;have n1:t2≠it:=by
    rintro rfl;obtain⟨o,G,L,_⟩:=H;obtain⟨o',f,g,_⟩:=p;rw[G]at f;cases f;rw[L]at g;simp at g
   have n2:t2≠D:=by
    rintro rfl;obtain⟨o,G,L,_⟩:=H;obtain⟨o',_,_,f,g,_⟩:=Q;rw[G]at f;cases f;have:=g.1;rw[L]at this;simp at this
   obtain⟨o,G,r⟩:=H;exact⟨t2,a8,e2,⟨o,kp _ o n2 n1 G,r⟩,a9⟩
  ·refine hR z tk ?_ fun b o h y e=>a7 b o h y (kp b o h y e);have ed:ps.drop i=ps[i]::ps.drop (i+1):=l6 (by omega);rw[ed];exact C
theorem t8{l:Addr}{o:Obj}{items:Array Value}{n:Nat}{ps:List (ge×Value)}{Q:Zc}(O:A.handled=none)(T:s.heap.get? l=some o)(I:o.cls=.type "list")(v:o.data=.seq items n)(J:o.dict=none)
  (L:ps.length=items.size) (hp:∀(j:Nat) (u:Value) (H:ge×Value),items[j]?=some u->ps[j]?=some H->DW s.heap u H) (hz:items.size<=aj)
  (h:∀x tk,x.DictOf (cI prog w) s.heap.objs.size (merged [] ps)->(∀b o,s.heap.get? b=some o->x.get? b=some o)->Q (.ref s.heap.objs.size) { s with heap:=x,toks:=tk }) :
  wpAny (model prog w) A (call (.type "dict") [.ref l]) Q E s:=by
 refine callType_codes (Q₁:=fun y m=>y=.ref s.heap.objs.size/\m={ s with heap:=s.heap.push { cls:=.type "dict",data:=.dict #[] } }) F.kt_called_dict (F.kt_typeCall_dict_1 _) F.entry_dict_init (kt_code_dict_new _ ⟨rfl,rfl⟩) ?_;rintro y m ⟨rfl,rfl⟩;have f:(s.heap.push { cls:=.type "dict",data:=.dict #[] }).DictOf (cI prog w) s.heap.objs.size []:=Heap.DictOf.new s.heap;have p:(s.heap.push { cls:=.type "dict",data:=.dict #[] }).get? l=some o:=a_ _ T;have z:l<s.heap.objs.size:=aM T;refine⟨f.typeIs,F.args_dict_init_2 _ _,?_⟩;unfold cc.«dict.__init__»;refine am ?_;unfold cc.Dict.selfAndRest;refine am (wpAny_notOrdered_dict f.typeIs ?_);show wpAny _ _ (pure (s.heap.objs.size,[Value.ref l])) _ _ _;refine aR ?_;show wpAny _ _ (cc.Dict.updateFrom "dict.__init__" s.heap.objs.size (.ref l) [] .none) _ _ _;unfold cc.Dict.updateFrom;have M:Shared.TypeIs { s with heap:=s.heap.push { cls:=.type "dict",data:=.dict #[] } } (.ref l) "list":=⟨o,p,I⟩;refine am (yR M ?_);rw[if_pos (by decide)];refine am (Gq p I v J O fun q N k1=>?_);have k:∀b ob,(s.heap.push { cls:=.type "dict",data:=.dict #[] }).get? b=some ob->q.get? b=some ob:=k1;rw[if_pos (by rfl:(none:Option Value).isNone=true)];refine am (sY ?_);have B:q.IsList l items:=⟨o,k _ _ p,I,n,v⟩;refine am (uC (s:={ s with heap:=q,toks:=N }) B ?_);have C:q.DictOf (cI prog w) s.heap.objs.size []:=by
  obtain⟨U,Y,ep,g,r⟩:=f;exact⟨U,Y,ep,k _ _ g,r⟩
 have i:s.heap.objs.size<q.objs.size:=by
  obtain⟨U,Y,ep,g,r⟩:=C;exact aM g
 refine aR ⟨oK gW _,?_⟩;refine Ho (A:=A.in1) (prog:=prog) (w:=w) O (D:=s.heap.objs.size) (it:=q.objs.size) (l:=l) (items:=items) (ps:=ps) (cX i) (cX (Nat.lt_trans z i)) (cX z) L items.size 0 _ [] (Nat.sub_zero _) (cL _) (by rw[List.length_nil];omega)
  ⟨_,dh _ rfl,rfl,rfl⟩ (B.push _) (C.push _) (fun j u H a b=>?_) fun x tk G kp=>?_
 ·obtain⟨t,ku,e,ht,hk⟩:=hp j u H a b;obtain⟨ot,g,r⟩:=ht;exact⟨t,ku,e,⟨ot,a_ _ (k _ _ (a_ _ g)),r⟩,hk⟩
 ·rw[uS]at G;refine⟨rfl,h x tk G fun b ob e=>kp b ob (cX (aM e)) (cX (Nat.lt_trans (aM e) i)) (a_ _ (k _ _ (a_ _ e)))⟩
end
section
variable{X:Cx}
theorem AH(hc:X.calm=true):g9 X (.type "dict") (fun Y H Q=>∃(l:Addr) (k:Ze) (f:List (ge×V)),Y=[.ref l]/\ay X.K H l (k.map V.ref)/\k.length=f.length /\
  (∀(j:Nat) (t:Addr) (g:ge×V),k[j]?=some t->f[j]?=some g->H t=some (.tup [kV g.1,g.2]))/\∀p,H p=none->Q (.ref p) (upd H p (.dK (jV [] f)))):=by
 intro J5 s σ H Y us Q I r h;obtain⟨l,k,f,rfl,v,z,D,q⟩:=h;obtain⟨u,rfl,ru⟩:=vals1 r;cases ru;obtain⟨E,rv,⟨o,n,ho,G,J,L⟩,M⟩:=I.list v;have N:∀(k:Ze) (f:List (ge×V)),k.length=f.length->(∀(j:Nat) (t:Addr) (g:ge×V),k[j]?=some t->f[j]?=some g->H t=some (.tup [kV g.1,g.2]))->∃y:List (ge×Value),KV f y/\∀(j:Nat) (t:Addr) (g:ge×Value),k[j]?=some t->y[j]?=some g->DW s.heap (.ref t) g:=by
  intro k
  induction k with
  |nil =>
   intro f v _;cases f with
   |nil=>exact⟨[],.nil,fun j t g e=>by simp at e⟩
   |cons _ _=>cases v
  |cons t k ih =>
   intro f v D;cases f with
   |nil=>cases v
   |cons g f =>
    obtain⟨y,O,r2⟩:=ih f (by simpa using v) fun j T m a b=>D (j+1) T m (by simpa using a) (by simpa using b);obtain⟨_,al,rt,p⟩:=(show cZ X.prog X.w X.K H s.heap t (.tup [kV g.1,g.2])from I.hok t _ (D 0 t g rfl rfl));obtain⟨a,b,e,ra,rb⟩:=rt.two;subst e;refine⟨(g.1,b)::y,.cons ⟨rfl,rb⟩ O,fun j T m A U=>?_⟩;cases j with
    |zero =>
     simp at A U;subst A U;exact⟨t,a,rfl,p,qQ (P:=X.prog) (w:=X.w) ra⟩
    |succ j=>exact r2 j T m (by simpa using A) (by simpa using U)
 obtain⟨y,B,pa⟩:=N k f z D;have C:=rv.length;rw[ah]at C;have an:=B.length;refine t8 (prog:=X.prog) (w:=X.w) (ps:=y) (I.ok.hd hc) ho G L J (by rw[cf];omega) (fun j u g a b=>?_) (by rw[cf,<-C];rw[ah]at M;exact M) fun h' tk hD kp=>?_
 ·have a':E[j]?=some u:=by simpa using a
  have hj:j<k.length:=by
   have:=(cj.mp a').1;omega
  obtain⟨u',e1,O⟩:=rv.get (i:=j) (x:=V.ref k[j]) (by simp[hj]);rw[a']at e1;cases e1;cases(show u=Value.ref k[j]from O);exact pa j k[j] g (by simp[hj]) b
 ·have hm:(jV [] f).length<=aj:=by
   have A:=oB f [];rw[List.length_nil]at A;rw[ah]at M;omega
  exact⟨.ref s.heap.objs.size,_,I.laid (o:=.dK (jV [] f)) kp (aB _) (Ja hm (beq_eq_false_iff_ne.mpr (b_ (cX I.big))) (B.merge .nil) hD),rfl,q _ I.fresh⟩
end
abbrev dS:R2:=Ez fun i j=>.int (i+j)
abbrev sZ:R2:=Ez fun i j=>.int (i-j)
abbrev mD:R2:=rI Jy fun i j=>.int (i * j)
abbrev jo:R2:=rI (fun _ j=>0<j) fun i j=>.int (i % j)
abbrev HX:R2:=rI MU fun i j=>.int (i / j)
abbrev Lc:R2:=rI MT fun i j=>.int (i ^ j.toNat)
abbrev HV:R2:=Ez fun i j=>.bl (decide (i<j))
abbrev rLeI:R2:=Ez fun i j=>.bl (decide (i<=j))
abbrev Ge:R2:=Ez fun i j=>.bl (decide (j<i))
abbrev LI:R2:=Ez fun i j=>.bl (decide (j<=i))
abbrev Le:R2:=fun x y H Q=>∃i j,x=.str i/\y=.str j/\i.length+j.length<=aj/\Q (.str (i++j)) H
abbrev rInS:R2:=fun x y H Q=>∃c j,x=.str ⟨#[c]⟩/\y=.str j/\Q (.bl (decide (c∈j.cps.toList))) H
abbrev Mu(K:Za):List V->Hp->VK->Prop:=fun xs H Q=>∃(p:Addr) (bs:List Bool),xs=[.ref p]/\ay K H p (bs.map V.bl)/\Q (.bl (bs.all id)) H
abbrev oz(K:Za):List V->Hp->VK->Prop:=fun xs H Q=>∃p ys,xs=[.ref p]/\((ay K H p ys/\∀l,H l=none->Q (.ref l) (upd H l (.tup ys)))∨(bT K H p ys/\Q (.ref p) H))
abbrev Ko(K:Za):List V->Hp->VK->Prop:=fun xs H Q=>∃(l:Addr) (ts:Ze) (kvs:List (ge×V)),xs=[.ref l]/\ay K H l (ts.map V.ref)/\ts.length=kvs.length /\
  (∀(j:Nat) (t:Addr) (kv:ge×V),ts[j]?=some t->kvs[j]?=some kv->H t=some (.tup [kV kv.1,kv.2]))/\∀p,H p=none->Q (.ref p) (upd H p (.dK (jV [] kvs)))
abbrev fB(K:Za):List V->Hp->VK->Prop:=fun xs H Q =>
 (∃p ys,xs=[.ref p]/\(ay K H p ys∨bT K H p ys)/\∀l,H l=none->Q (.ref l) (upd H l (.lst ys))) ∨
 (∃(d:Addr) (kvs:List (ge×V)),xs=[.ref d]/\Rd H d (.dK kvs)/\∀l,H l=none->Q (.ref l) (upd H l (.lst (kvs.map fun kv=>kV kv.1))))
abbrev ie(K:Za):List V->Hp->VK->Prop:=fun xs H Q =>
 (∃p ys,xs=[.ref p]/\(ay K H p ys∨bT K H p ys)/\Q (.int ys.length) H)∨(∃z,xs=[.str z]/\z.length<=aj/\Q (.int z.length) H)
theorem DS:lV "list"=some (.type "list"):=by decide +kernel
theorem de:lV "tuple"=some (.type "tuple"):=by decide +kernel
theorem DU:lV "dict"=some (.type "dict"):=by decide +kernel
theorem yd:lV "int"=some (.type "int"):=by decide +kernel
section
variable{X:Cx}{p pos:Pos}
theorem GQ:g9 X (.builtin "len") (ie X.K):=AF.or AE
theorem DR(a:X.calm=true):g9 X (.type "list") (fB X.K):=AD.or (wb a)
end
def Gc(mg:Str->Option Value)(x:Str)(v:V):Prop:=∃u,mg x=some u/\RelV v u
theorem f_{X:Cx}{x:Str}{v:V}{a:Pos}(e:Gl X x)(h:Gc X.mg x v)(f:(x==("__debug__":Str))=false:=by decide):PE X (.Name x a) (tC v):=by
 obtain⟨u,g,r⟩:=h;exact Ku e g r f
structure fN(P:bZ)(w:World)(K:Za)(mg:Str->Option Value)(base:Heap)(x:Str)(ps:Zb)(k:Nat)(sp:Sp):Prop where
 ex:∃f fd,mU P w K mg base CX0 k f fd ps sp/\mg x=some (.ref f)/\iC K (.ref f)=true/\Binds K fd ps []
structure MM(P:bZ)(w:World)(K:Za)(mg:Str->Option Value)(base:Heap)(x:Str)(C:Addr)(ps:Zb)(k:Nat)(sp:Sp):Prop where
 ex:∃f fd,mU P w K mg base CX0 k f fd ps sp/\mg x=some (.ref C)/\Mk K C f/\Binds K fd ps []
structure oj(P:bZ)(w:World)(K:Za)(mg:Str->Option Value)(base:Heap)(C:Addr)(m:Str)(ps:Zb)(k:Nat)(sp:Sp):Prop where
 ex:∃f fd,mU P w K mg base CX0 k f fd ps sp/\Fu K C/\K2 K C m f/\Binds K fd ps []
section
variable{X:Cx}{k:Nat}{ps:Zb}{sp:Sp}{x m:Str}{C:Addr}{p pos J7:Pos}{o e:Expr}{es:List Expr}{t:TA}{ta:TE}
theorem Im(D:fN X.prog X.w X.K X.mg X.base x ps k sp)(h:fM k X.A)(i:Gl X x)(j:PA X (e::es) t)(a:(x==("__debug__":Str))=false:=by decide)
  (l:aK (e::es) X.env=(false,eval e X.env)::aK es X.env:=by rfl) (g:(backTo pos (aK es X.env)).any (·.1)=false:=by rfl) :
  PE X (.Call (.Name x p) (e::es) [] pos) (aL sp t):=by
 obtain⟨f,s,F,n,q,r⟩:=D.ex;exact Kw F h i n q r .nil EJ j a l g
theorem Ac(D:MM X.prog X.w X.K X.mg X.base x C ps k sp)(h:fM (k+1) X.A)(i:Gl X x)(j:PA X (e::es) t)(a:(x==("__debug__":Str))=false:=by decide)
  (l:aK (e::es) X.env=(false,eval e X.env)::aK es X.env:=by rfl) (g:(backTo pos (aK es X.env)).any (·.1)=false:=by rfl) :
  PE X (.Call (.Name x p) (e::es) [] pos) (xx C sp [] E0 t):=by
 obtain⟨f,r,F,n,M,q⟩:=D.ex;exact Kt M F h i n q .nil EJ j a l g
theorem LP{pl:Sem Bool}(M:oj X.prog X.w X.K X.mg X.base C m ps k sp)(i:fM k X.A)(j:PE X o ta)(l:PA X (e::es) t)
  (a:aK (e::es) X.env=(false,eval e X.env)::aK es X.env:=by rfl) (g:(backTo pos (aK es X.env)).any (·.1)=false:=by rfl)
  (n:eval (.Call (.Attribute o m J7) (e::es) [] pos) X.env=(do
   let h <- eval o X.env
   sW J7.atName
   let(f,first) <- lU [h] (sT h m pl)
   xh pos f first (backTo pos (aK (e::es) X.env)) (pP pos (pO [] X.env))):=by rfl) :
  PE X (.Call (.Attribute o m J7) (e::es) [] pos) (cz C m sp [] E0 ta t):=by
 obtain⟨f,s,F,c,q,r⟩:=M.ex;exact Ks j c q F i r .nil EJ l a g n
theorem Kr{pl:Sem Bool}(M:oj X.prog X.w X.K X.mg X.base C m ps k sp)(g:fM k X.A)(h:PE X o ta)
  (i:eval (.Call (.Attribute o m J7) [] [] pos) X.env=(do
   let a <- eval o X.env
   sW J7.atName
   let(f,first) <- lU [a] (sT a m pl)
   xh pos f first (backTo pos (aK [] X.env)) (pP pos (pO [] X.env))):=by rfl) :
  PE X (.Call (.Attribute o m J7) [] [] pos) (cz C m sp [] E0 ta bp):=by
 obtain⟨f,n,F,c,j,l⟩:=M.ex;exact Il h c j F g l .nil EJ i
end
def MG(K:Za)(tl:TE):TI:=fun σ H R=>tl σ H fun x H1=>∃a,x=.ref a/\(((∃xs,ay K H1 a xs)/\R (Jw K a) H1)∨((∃xs,bT K H1 a xs)/\R (Ls K a) H1))
theorem LN{X:Cx}{u l:Expr}{r:TE}(w:PE X l r):PI X u l (MG X.K r):=by
 intro t s σ H R I h;refine cS (w t s σ H _ I h) fun v f j=>?_;obtain⟨x,k,g,y,z⟩:=j;obtain⟨a,e,q⟩:=z;subst e;cases y;have i:∀b∈[f.heap.objs.size],om X t k b:=fun b A=>by
  have e:b=f.heap.objs.size:=by simpa using A
  subst e;exact g.fpOk (aB _) (g.hok.fresh (aB _))
 rcases q with⟨⟨B,m⟩,q⟩|⟨⟨B,m⟩,q⟩
 ·obtain⟨n,C,p,D⟩:=g.list m;refine uC p.isList ?_;exact⟨f.heap.objs.size,[f.heap.objs.size],_,_,k,rfl,g.kept (t':=f.toks) fun b o e=>a_ _ e,xp a _,⟨_,dh _ rfl,rfl,rfl⟩,i,q⟩
 ·obtain⟨n,C,p,D⟩:=g.tuple m;refine wpAny_pyIter_tuple p ?_;exact⟨f.heap.objs.size,[f.heap.objs.size],_,_,k,rfl,g.kept (t':=f.toks) fun b o e=>a_ _ e,u_ a _,⟨_,dh _ rfl,rfl,rfl⟩,i,q⟩
theorem ky{K:Za}{a:Addr}{xs:List V}{g:TG}{k:TS}{D:on}{σ:St}{H:Hp}(Pv:Nat->St->Hp->Prop)(n:Pv 0 σ H)(o:∀i σ H,i<=xs.length->Pv i σ H->ay K H a xs)
  (r:∀i x σ H p,xs[i]?=some x->Pv i σ H->H p=none->g (.ref p) σ (upd H p (.tup [.int i,x])) fun σ2 j=>k { D with nx:=Pv (i+1),ct:=Pv (i+1),bk:=D.nx } σ2 j) (s:∀σ H,Pv xs.length σ H->D.nx σ H) :
  ∃W:Nat->Nat->St->Hp->Prop,(∃m,W 0 m σ H)/\∀i m σ H,W i m σ H ->
   ((MQ K a).stop i H/\D.nx σ H)∨((MQ K a).go i H/\∃N:St->Hp->Prop,(∀σ' f,N σ' f->∃l,l<m/\W (i+1) l σ' f)/\∀x f,(MQ K a).yld i H x f->g x σ f fun σ2 j=>k { D with nx:=N,ct:=N,bk:=D.nx } σ2 j):=by
 refine⟨fun i m σ H=>m=xs.length-i/\i<=xs.length/\Pv i σ H,⟨xs.length,by simp,cL _,n⟩,?_⟩;rintro i m σ H ⟨rfl,u,p⟩;have q:=o i σ H u p;by_cases h:i<xs.length
 ·refine .inr ⟨⟨xs,xs[i],q,by simp[h]⟩,Pv (i+1),fun σ' f w=>⟨xs.length-(i+1),by omega,rfl,h,w⟩,fun x f y=>?_⟩;obtain⟨t,v,rfl,z,A,rfl⟩:=y;exact r i v σ H t (A xs q) p z
 ·have e:i=xs.length:=by omega
  subst e;exact .inl ⟨⟨xs,q,aB _⟩,s σ H p⟩
def Wc(n:Nat)(Pv:Nat->List V->Hp->Prop):Nat->Nat->List V->Hp->Prop:=fun i m vs H=>m=n-i/\i<=n/\Pv i vs H
theorem n5{n i:Nat}{Pv:Nat->List V->Hp->Prop}{a:List V}{H:Hp}(f:i<n)(p:Pv (i+1) a H):∃e,e<n-i/\Wc n Pv (i+1) e a H:=⟨n-(i+1),by omega,rfl,f,p⟩
abbrev dJ(k:Nat)(fi:List Nat)(σ:St)(J:It)(g:TG)(tc:TT)(te:TE)(H1:Hp)(l:Addr)(Q:Hp->Prop):Prop :=
 ∃W:Nat->Nat->List V->Hp->Prop,(∃m,W 0 m [] (upd H1 l (.lst [])))/\∀i m vs H2,W i m vs H2->H2 l=some (.lst vs) /\
  ((J.stop i H2/\Q H2)∨(J.go i H2/\∀x H3,J.yld i H2 x H3->g x (ei k fi σ) H3 fun σ2 H4=>tc σ2 H4 fun b H5 =>
   if b=true then te σ2 H5 fun v H6=>H6 l=some (.lst vs)/\vs.length<aj/\∃m',m'<m/\W (i+1) m' (vs++[v]) (upd H6 l (.lst (vs++[v])))else ∃m',m'<m/\W (i+1) m' vs H5))
theorem kB{k:Nat}{r:List Nat}{J:It}{g:TG}{s:TT}{t:TE}{σ:St}{u:Hp}{Q:Hp->Prop}{l:Addr}(n:Nat)(Pv:Nat->List V->Hp->Prop)(A:Pv 0 [] (upd u l (.lst [])))
  (B:∀i a H,i<=n->Pv i a H->H l=some (.lst a)) (o:∀i a H,i<n->Pv i a H->J.go i H) (q:∀a H,Pv n a H->J.stop n H/\Q H)
  (C:∀i a H x j,i<n->Pv i a H->J.yld i H x j->g x (ei k r σ) j fun σ2 D=>s σ2 D fun b w =>
   if b=true then t σ2 w fun v z=>z l=some (.lst a)/\a.length<aj/\∃f,f<n-i/\Wc n Pv (i+1) f (a++[v]) (upd z l (.lst (a++[v])))else ∃f,f<n-i/\Wc n Pv (i+1) f a w) :
  dJ k r σ J g s t u l Q:=by
 refine⟨Wc n Pv,⟨n,by simp[Wc],cL _,A⟩,?_⟩;rintro i m a H ⟨rfl,E,p⟩;refine⟨B i a H E p,?_⟩;by_cases h:i<n
 ·exact .inr ⟨o i a H h p,fun x j y=>C i a H x j h p y⟩
 ·have e:i=n:=by omega
  subst e;exact .inl (q a H p)
section
variable{K:Za}{k:Nat}{fi:List Nat}{g:TG}{tc:TT}{te:TE}{σ:St}{H1:Hp}{Q:Hp->Prop}{l:Addr}
theorem cF{a:Addr}{xs:List V}(Pv:Nat->List V->Hp->Prop)(o:Pv 0 [] (upd H1 l (.lst [])))
  (j:∀i e H,i<=xs.length->Pv i e H->H l=some (.lst e)/\ay K H a xs) (q:∀e H,Pv xs.length e H->Q H)
  (r:∀i e H x,xs[i]?=some x->i<xs.length->Pv i e H->g x (ei k fi σ) H fun σ2 s=>tc σ2 s fun b m =>
   if b=true then te σ2 m fun v n=>n l=some (.lst e)/\e.length<aj/\∃h,h<xs.length-i/\Wc xs.length Pv (i+1) h (e++[v]) (upd n l (.lst (e++[v])))else ∃h,h<xs.length-i/\Wc xs.length Pv (i+1) h e m) :
  dJ k fi σ (Jw K a) g tc te H1 l Q:=by
 refine kB xs.length Pv o (fun i e H f p=>(j i e H f p).1) (fun i e H f p=>⟨xs,xs[i],(j i e H (cW f) p).2,by simp[f]⟩) (fun e H p=>⟨⟨xs,(j _ e H (aB _) p).2,aB _⟩,q e H p⟩) fun i e H x t f p y=>?_;obtain⟨rfl,y⟩:=y;exact r i e _ x (y xs (j i e _ (cW f) p).2) f p
theorem mP{a:Addr}{xs:List V}(Pv:Nat->List V->Hp->Prop)(o:Pv 0 [] (upd H1 l (.lst [])))
  (j:∀i e H,i<=xs.length->Pv i e H->H l=some (.lst e)/\bT K H a xs) (q:∀e H,Pv xs.length e H->Q H)
  (r:∀i e H x,xs[i]?=some x->i<xs.length->Pv i e H->g x (ei k fi σ) H fun σ2 s=>tc σ2 s fun b m =>
   if b=true then te σ2 m fun v n=>n l=some (.lst e)/\e.length<aj/\∃h,h<xs.length-i/\Wc xs.length Pv (i+1) h (e++[v]) (upd n l (.lst (e++[v])))else ∃h,h<xs.length-i/\Wc xs.length Pv (i+1) h e m) :
  dJ k fi σ (Ls K a) g tc te H1 l Q:=by
 refine kB xs.length Pv o (fun i e H f p=>(j i e H f p).1) (fun i e H f p=>⟨xs,xs[i],(j i e H (cW f) p).2,by simp[f]⟩) (fun e H p=>⟨⟨xs,(j _ e H (aB _) p).2,aB _⟩,q e H p⟩) fun i e H x t f p y=>?_;obtain⟨rfl,y⟩:=y;exact r i e _ x (y xs (j i e _ (cW f) p).2) f p
theorem DP{lo:Int}{n:Nat}(Pv:Nat->List V->Hp->Prop)(m:Pv 0 [] (upd H1 l (.lst [])))
  (o:∀i a H,i<=n->Pv i a H->H l=some (.lst a)) (q:∀a H,Pv n a H->Q H)
  (r:∀i a H,i<n->Pv i a H->g (.int (lo+i)) (ei k fi σ) H fun σ2 s=>tc σ2 s fun b h =>
   if b=true then te σ2 h fun v j=>j l=some (.lst a)/\a.length<aj/\∃e,e<n-i/\Wc n Pv (i+1) e (a++[v]) (upd j l (.lst (a++[v])))else ∃e,e<n-i/\Wc n Pv (i+1) e a h) :
  dJ k fi σ (Md lo n) g tc te H1 l Q:=by
 refine kB n Pv m o (fun i a H f p=>f) (fun a H p=>⟨aB _,q a H p⟩) fun i a H x t f p y=>?_;obtain⟨rfl,rfl⟩:=y;exact r i a _ f p
theorem Ji{x:Str}(Pv:Nat->List V->Hp->Prop)(m:Pv 0 [] (upd H1 l (.lst [])))
  (n:∀i a H,i<=x.cps.size->Pv i a H->H l=some (.lst a)) (o:∀a H,Pv x.cps.size a H->Q H)
  (q:∀i a H c,x.cps[i]?=some c->i<x.cps.size->Pv i a H->g (.str ⟨#[c]⟩) (ei k fi σ) H fun σ2 r=>tc σ2 r fun b h =>
   if b=true then te σ2 h fun v j=>j l=some (.lst a)/\a.length<aj/\∃e,e<x.cps.size-i/\Wc x.cps.size Pv (i+1) e (a++[v]) (upd j l (.lst (a++[v])))else ∃e,e<x.cps.size-i/\Wc x.cps.size Pv (i+1) e a h) :
  dJ k fi σ (Na x) g tc te H1 l Q:=by
 refine kB x.cps.size Pv m n (fun i a H f p=>f) (fun a H p=>⟨aB _,o a H p⟩) fun i a H y u f p s=>?_;obtain⟨rfl,c,t,rfl⟩:=s;exact q i a _ c t f p
end
theorem gN{j:Nat}{x:V}{σ:St}{H:Hp}{Q:St->Hp->Prop}(h:Q (σ.set j (some x)) H):eD j x σ H Q:=h
theorem oS{σ:St}{H:Hp}{A B:Hp->Prop}(h:A H):gj σ H (fun b a=>if b=true then A a else B a):=by
 show(if(true:Bool)=true then A H else B H)
 exact h
inductive JA{T0 T1:Type}(P:T0->T1->Prop):Prop
 |mk (x0:T0) (x1:T1):P x0 x1->JA P
inductive Mi{T0 T1 T2:Type}(P:T0->T1->T2->Prop):Prop
 |mk (x0:T0) (x1:T1) (x2:T2):P x0 x1 x2->Mi P
inductive NE4{T0 T1 T2 T3:Type}(P:T0->T1->T2->T3->Prop):Prop
 |mk (x0:T0) (x1:T1) (x2:T2) (x3:T3):P x0 x1 x2 x3->NE4 P
inductive MN{T0 T1 T2 T3 T4:Type}(P:T0->T1->T2->T3->T4->Prop):Prop
 |mk (x0:T0) (x1:T1) (x2:T2) (x3:T3) (x4:T4):P x0 x1 x2 x3 x4->MN P
inductive NE6{T0 T1 T2 T3 T4 T5:Type}(P:T0->T1->T2->T3->T4->T5->Prop):Prop
 |mk (x0:T0) (x1:T1) (x2:T2) (x3:T3) (x4:T4) (x5:T5):P x0 x1 x2 x3 x4 x5->NE6 P
inductive NA3(p0 p1 p2:Prop):Prop
 |mk:p0->p1->p2->NA3 p0 p1 p2
inductive M9(p0 p1 p2 p3:Prop):Prop
 |mk:p0->p1->p2->p3->M9 p0 p1 p2 p3
inductive Jr(p0 p1 p2 p3 p4:Prop):Prop
 |mk:p0->p1->p2->p3->p4->Jr p0 p1 p2 p3 p4
inductive MO(p0 p1 p2 p3 p4 p5:Prop):Prop
 |mk:p0->p1->p2->p3->p4->p5->MO p0 p1 p2 p3 p4 p5
end L2
namespace L2
open PySem PySem.W
section
variable{X:Cx}
theorem Et:∀{f:List Int}{a:Zf},bg (f.map V.int) a->∃e:List (Int×Tok),a=e.map (fun p=>Value.int p.1 p.2)/\e.map (·.1)=f
 |[],_,r=>by cases r;exact⟨[],rfl,rfl⟩
 |n::f,_,r=>by
  cases r with
  |cons g h =>
   obtain⟨t,rfl⟩:=g;obtain⟨e,i,j⟩:=Et h;exact⟨(n,t)::e,by rw[i];rfl,by rw[bF,j]⟩
end
def HB(K:Za)(td ty tv:TE):TS:=fun D σ H=>tv σ H fun v H1=>td σ H1 fun x H2=>ty σ H2 fun y H3 =>
 ∃(a b:Addr) (kvs:List (TK×V)) (k:TK),x=.ref a/\y=.ref b/\H3 a=some (.dT kvs)/\tG K H3 k (.ref b)/\k.depth<=8/\kvs.length<aj/\D.nx σ (upd H3 a (.dT (eG kvs k v)))
section
variable{X:Cx}{o i value:Expr}{pos pos':Pos}{td ty tv:TE}
theorem Ib(j:X.A.units+16<cLine)(m:PE X o td)(n:PE X i ty)(p:PE X value tv)(q:sV value (some (.Subscript o i pos')) pos.line X.env=pure false):
  PS X (.Assign [.Subscript o i pos'] value pos) (HB X.K td ty tv):=by
 intro f s σ H D I h;refine wpAny_Assign_Subscript (cS (p f s σ H _ I h) fun r t ⟨v,w,z,B,C⟩=>cS (m f t σ w _ z C) fun u E ⟨x,G,J,L,M⟩=>cS (n f E σ G _ J M) fun iv s3 g=>?_) q;obtain⟨y,H3,N,O,a,b,Q,k,ex,T,e,U,Y,l,q3⟩:=g;subst ex;subst T;obtain rfl:u=Value.ref a:=L;exact DM j N e U Y l O B fun s4 I4=>⟨σ,_,I4,q3⟩
end
theorem xw{K:Za}{H:Hp}:∀a:List Str,TKCs K H (a.map fun x=>TK.k (some (.inr x))) (a.map V.str)
 |[]=>by show TKCs K H [] [];unfold TKCs;rfl
 |x::a=>by
  rw[bF,bF];unfold TKCs;refine⟨_,_,rfl,?_,xw a⟩;unfold tG
  rfl
theorem Hy{K:Za}{H:Hp}{a:Addr}{e:Zb}(h:aS K H a (e.map V.str)):tG K H (.t (e.map fun x=>TK.k (some (.inr x)))) (.ref a):=by
 unfold tG;exact⟨a,_,rfl,h,xw e⟩
end L2
end

section
set_option Elab.async false
set_option linter.all false
set_option maxRecDepth 100000
namespace L2
open PySem PySem.Spec PyProof.Rows PySem.W
def K6:Expr->List Str
 |.Name x _=>[x]
 |.Tuple es _ _=>es.filterMap fun e=>match e with | .Name x _=>some x|_=>none
 |_=>[]
theorem bK{X:Cx}{b:List Stmt}{t:TS}{D:on}{σ:St}{H:Hp}(r:t D σ H)(p:CM X b t):∃t,CM X b t/\t D σ H:=⟨t,p,r⟩
section
variable{X:Cx}{k k0:Nat}{ps:Zb}{sp:Sp}{x m:Str}{C:Addr}{p pos J7:Pos}{o e a b:Expr}{es:List Expr}{t:TA}{ta tb te:TE}
theorem qf(h:fM k0 X.A)(D:fN X.prog X.w X.K X.mg X.base x ps k sp)(i:PA X (e::es) t)(hk:k<=k0:=by decide)(j:Gl X x:=by rfl)(f:(x==("__debug__":Str))=false:=by decide)
  (l:aK (e::es) X.env=(false,eval e X.env)::aK es X.env:=by rfl) (g:(backTo pos (aK es X.env)).any (·.1)=false:=by rfl) :
  PE X (.Call (.Name x p) (e::es) [] pos) (aL sp t):=Im D (h.mono hk) j i f l g
theorem qm{pl:Sem Bool}(j:fM k0 X.A)(M:oj X.prog X.w X.K X.mg X.base C m ps k sp)(l:PE X o ta)(n:PA X (e::es) t)(hk:k<=k0:=by decide)
  (g:aK (e::es) X.env=(false,eval e X.env)::aK es X.env:=by rfl) (h:(backTo pos (aK es X.env)).any (·.1)=false:=by rfl)
  (q:eval (.Call (.Attribute o m J7) (e::es) [] pos) X.env=(do
   let i <- eval o X.env
   sW J7.atName
   let(f,first) <- lU [i] (sT i m pl)
   xh pos f first (backTo pos (aK (e::es) X.env)) (pP pos (pO [] X.env))):=by rfl) :
  PE X (.Call (.Attribute o m J7) (e::es) [] pos) (cz C m sp [] E0 ta t):=LP (pl:=pl) M (j.mono hk) l n g h q
theorem LJ{pl:Sem Bool}(h:fM k0 X.A)(M:oj X.prog X.w X.K X.mg X.base C m ps k sp)(i:PE X o ta)(j:k<=k0:=by decide)
  (l:eval (.Call (.Attribute o m J7) [] [] pos) X.env=(do
   let g <- eval o X.env
   sW J7.atName
   let(f,first) <- lU [g] (sT g m pl)
   xh pos f first (backTo pos (aK [] X.env)) (pP pos (pO [] X.env))):=by rfl) :
  PE X (.Call (.Attribute o m J7) [] [] pos) (cz C m sp [] E0 ta bp):=Kr (pl:=pl) M (h.mono j) i l
theorem xl(f:PE X a ta)(g:PE X b tb)(h:GX b:=by exact fun _ _=>rfl):PE X (.Subscript a b pos) (az (cM X.K) ta tb):=EH EU f g h
theorem xt(f:PE X a ta)(g:PE X b tb)(h:GX b:=by exact fun _ _=>rfl):PE X (.Subscript a b pos) (az (dF X.K) ta tb):=EH IL f g h
theorem xq(f:PE X a ta)(g:PE X b tb)(h:GX b:=by exact fun _ _=>rfl):PE X (.Subscript a b pos) (az (t7 X.K) ta tb):=EH LU f g h
theorem xs'(f:PE X a ta)(g:PE X b tb)(h:GX b:=by exact fun _ _=>rfl):PE X (.Subscript a b pos) (az HW ta tb):=EH IM f g h
theorem iW{f:CmpOp}{r:R2}(g:nL X (fO f) r)(h:PE X a ta)(i:PE X b tb)(j:lF f b=false:=by exact Iz _):PT X (.Compare a [f] [b] pos) (be (az r ta tb)):=EC g h i j
theorem Hh{f:CmpOp}{r:R2}(g:nL X (fO f) r)(h:PE X a ta)(i:PE X b tb)(j:lF f b=false:=by exact Iz _):PE X (.Compare a [f] [b] pos) (az r ta tb):=EI g h i j
theorem Lz{f:CmpOp}{r:R2}(g:nL X (fO f) r)(h:PE X a ta)(i:PE X b tb)(j:lF f b=false:=by with_unfolding_all rfl):PT X (.Compare a [f] [b] pos) (be (az r ta tb)):=EC g h i j
theorem eci{f:CmpOp}{r:R2}(g:nL X (fO f) r)(h:PE X a ta)(i:PE X b tb)(j:lF f b=false:=by with_unfolding_all rfl):PE X (.Compare a [f] [b] pos) (az r ta tb):=EI g h i j
theorem qB{id:String}{r:List V->Hp->VK->Prop}(h:g9 X (.builtin id) r)(i:X.mg x=none)(j:lV x=some (.builtin id))(l:PA X (e::es) t)(n:Gl X x:=by rfl)(q:x≠"__name__":=by decide)(f:(x==("__debug__":Str))=false:=by decide)
  (s:aK (e::es) X.env=(false,eval e X.env)::aK es X.env:=by rfl) (g:(backTo pos (aK es X.env)).any (·.1)=false:=by rfl):PE X (.Call (.Name x p) (e::es) [] pos) (gk r t):=BR h n i j l q f s g
theorem qL(g:X.calm=true)(h:X.mg "list"=none)(i:PA X (e::es) t)(j:Gl X "list":=by rfl)
  (l:aK (e::es) X.env=(false,eval e X.env)::aK es X.env:=by rfl) (f:(backTo pos (aK es X.env)).any (·.1)=false:=by rfl):PE X (.Call (.Name "list" p) (e::es) [] pos) (gk (fB X.K) t):=df (DR g) j h DS i (by decide) (by decide) l f
theorem ql(g:X.mg "len"=none)(h:PA X (e::es) t)(i:Gl X "len":=by rfl)
  (j:aK (e::es) X.env=(false,eval e X.env)::aK es X.env:=by rfl) (f:(backTo pos (aK es X.env)).any (·.1)=false:=by rfl):PE X (.Call (.Name "len" p) (e::es) [] pos) (gk (ie X.K) t):=BR GQ i g PySem.boot_len h (by decide) (by decide) j f
theorem qs(i:Nat){f:Pos}(g:X.N.Nodup)(h:PE X e te)(j:X.N[i]?=some x:=by rfl)(l:Loc X.env.scope x:=by first|exact Or.inl rfl|exact Or.inr rfl)(n:sV e (some (.Name x f)) pos.line X.env=pure false:=by rfl)(q:X.fn x=true∨X.env.scope.names.lookup x=some .local:=by first|exact .inl rfl|exact .inr rfl|assumption):
  PS X (.Assign [.Name x f] e pos) (aI te (eD i)):=LK g j l h n q
theorem gn(i:Nat)(f:X.N.Nodup)(g:X.N[i]?=some x:=by rfl)(h:Loc X.env.scope x:=by first|exact Or.inl rfl|exact Or.inr rfl)(j:X.fn x=true∨X.env.scope.names.lookup x=some .local:=by first|exact .inl rfl|exact .inr rfl|assumption):PG X (.Name x pos) (eD i):=EG f g h j
theorem gc(i:Nat)(f:X.N.Nodup:=by exact of_decide_eq_true (by with_unfolding_all rfl))(g:X.N[i]?=some x:=by rfl)(h:Loc X.env.scope x:=by exact Or.inl rfl)(j:X.fn x=true∨X.env.scope.names.lookup x=some .local:=by first|exact .inl rfl|exact .inr rfl|assumption):PG X (.Name x pos) (eD i):=EG f g h j
theorem a1(f:PE X a ta)(g:aK [a] X.env=(false,eval a X.env)::aK [] X.env:=by rfl):PA X [a] (ak ta bp):=aX f da g
theorem a2(g:PE X a ta)(h:PE X b tb)(i:aK [a,b] X.env=(false,eval a X.env)::aK [b] X.env:=by rfl)(f:aK [b] X.env=(false,eval b X.env)::aK [] X.env:=by rfl):PA X [a,b] (ak ta (ak tb bp)):=aX g (aX h da f) i
theorem a3{c:Expr}{h:TE}(i:PE X a ta)(j:PE X b tb)(l:PE X c h)(n:aK [a,b,c] X.env=(false,eval a X.env)::aK [b,c] X.env:=by rfl)(f:aK [b,c] X.env=(false,eval b X.env)::aK [c] X.env:=by rfl)(g:aK [c] X.env=(false,eval c X.env)::aK [] X.env:=by rfl):PA X [a,b,c] (ak ta (ak tb (ak h bp))):=aX i (a2 j l f g) n
variable{elt iter tg:Expr}{ifs:List Expr}{scope:Scope}{fi:List Nat}{wi:TI}{g:TG}{tc:TT}
theorem qc(q:PI X tg iter wi)(r:Cy k g)
  (h:∀C l f j ex n,PG (eJ X (K6 tg++fi.map fun i=>X.N.getD i "") scope C l f j ex n) tg g/\Lq (eJ X (K6 tg++fi.map fun i=>X.N.getD i "") scope C l f j ex n) ifs tc/\PE (eJ X (K6 tg++fi.map fun i=>X.N.getD i "") scope C l f j ex n) elt te)
  (s:nJ X.env.scope scope k (K6 tg++fi.map fun i=>X.N.getD i "") X.N fi=true:=by with_unfolding_all rfl) (u:X.calm=true:=by rfl)
  (v:∀x,Bd iter X.env x=pure x:=by intro _;rfl):PE X (.ListComp elt [⟨tg,iter,ifs,0⟩] scope pos) (cA k fi wi g tc te) :=
 Kv s u q (fun _ _ _ _ _ _=>(h _ _ _ _ _ _).1) r (fun _ _ _ _ _ _=>(h _ _ _ _ _ _).2.1) (fun _ _ _ _ _ _=>(h _ _ _ _ _ _).2.2) v
theorem Mv(j:Nat){y:Str}{n u:Pos}(v:X.N.Nodup)(w:PI X tg iter wi)(z:Cy k g)
  (h:∀C q f l ex r,PG (eJ X (K6 tg++fi.map fun i=>X.N.getD i "") scope C q f l ex r) tg g/\Lq (eJ X (K6 tg++fi.map fun i=>X.N.getD i "") scope C q f l ex r) ifs tc/\PE (eJ X (K6 tg++fi.map fun i=>X.N.getD i "") scope C q f l ex r) elt te)
  (A:X.N[j]?=some y:=by rfl) (B:Loc X.env.scope y:=by first|exact Or.inl rfl|exact Or.inr rfl)
  (D:nJ X.env.scope scope k (K6 tg++fi.map fun i=>X.N.getD i "") X.N fi=true:=by with_unfolding_all rfl) (E:X.calm=true:=by rfl)
  (s:sV (.ListComp elt [⟨tg,iter,ifs,0⟩] scope pos) (some (.Name y u)) n.line X.env=pure true:=by rfl)
  (G:∀x,Bd iter X.env x=pure x:=by intro _;rfl) (H:X.fn y=true∨X.env.scope.names.lookup y=some .local:=by first|exact .inl rfl|exact .inr rfl|assumption) :
  PS X (.Assign [.Name y u] (.ListComp elt [⟨tg,iter,ifs,0⟩] scope pos) n) (aI (cA k fi wi g tc te) (eD j)) :=
 Dr v A B D E w (fun _ _ _ _ _ _=>(h _ _ _ _ _ _).1) z (fun _ _ _ _ _ _=>(h _ _ _ _ _ _).2.1) (fun _ _ _ _ _ _=>(h _ _ _ _ _ _).2.2) s G H
end
end L2
end

section
set_option Elab.async false
set_option linter.all false
set_option maxRecDepth 100000
namespace L2
open PySem PySem.Spec PyProof.Rows
theorem Gh{α β:Type}{F:α->β->Prop}{e:List α}{f:List β}(g:Paired F e f){i:Nat}{a:α}{b:β}(h:e[i]?=some a)(j:f[i]?=some b):F a b:=by
 induction g generalizing i with
 |nil=>cases h
 |cons r _ k =>
  cases i with
  |zero=>injection h with h;injection j with j;subst h j;exact r
  |succ i=>exact k h j
structure Jp(h:Heap)(d:Addr)(es:Array mf)(ep:Nat):Prop where
 ex:∃o,h.get? d=some o/\o.ExactDict/\o.data=.dict es ep
section
variable{prog:bZ}{w:World}{A:Around}{E:Zc}{s:Shared}{d v it:Addr}{es:Array mf}{ep i:Nat}
theorem Jp.ty(h:Jp s.heap d es ep):s.TypeIs (.ref d) "dict":=let⟨o,a,e,_⟩:=h.ex;⟨o,a,e.1⟩
end
structure Me(P:bZ)(w:World)(K:Za)(d:Addr)(o:Obj)(u:HO)(n:Nat)(ent:Nat->Hp->V->V->Prop)(es:Array mf)(ep:Nat):Prop where
 ex:o.ExactDict
 dat:o.data=.dict es ep
 sz:es.size=n
 get:∀{H:Hp}{h:Heap}{i:Nat}(hi:i<es.size),nN P w K H h->H d=some (.frz o u)->∃a b,ent i H a b/\RelV a es[i].key/\RelV b es[i].val
def KI(K:Za)(kvs:List (TK×V)):Nat->Hp->V->V->Prop:=fun i H a b=>∃k,kvs[i]?=some (k,b)/\tG K H k a
theorem xU{P:bZ}{w:World}{K:Za}{H:Hp}{h:Heap}{d:Addr}{o:Obj}{f:List (TK×V)}(s:nN P w K H h)(e:H d=some (.frz o (.dT f))):
  (d==iU)=false/\∃es t,Me P w K d o (.dT f) f.length (KI K f) es t:=by
 obtain⟨g,z,n,D,u,o',es,t,p,ex,y,v,nd⟩:=(show cZ P w K H h d (.frz o (.dT f))from s d _ e);rw[g]at p;cases p;have E:es.size=D.length:=by rw[<-lT,v,ah]
 refine⟨n,es,t,ex,y,by rw[E,Paired.length u],fun{G I i} J q L=>?_⟩;obtain⟨M,z',x,xs',j,N,O,Q,k,T,r,l,U⟩:=(show cZ P w K G I d (.frz o (.dT f))from q d _ L);rw[M]at k;cases k;rw[y]at r;cases r;have Y:es.size=xs'.length:=by rw[<-lT,l,ah]
 have m:i<xs'.length:=by omega
 have A:i<f.length:=by rw[Paired.length j];exact m
 have B:=Gh j (i:=i) (a:=f[i]) (b:=xs'[i]) (by simp[A]) (by simp[m]);have C:es[i]=entryOfKey (fx P w) xs'[i]:=by
  have:es.toList[i]?=some es[i]:=by simp[J]
  rw[l,cC,bM m]at this;injection this with this;exact this.symm
 refine⟨.ref xs'[i].2.1,f[i].2,⟨f[i].1,by simp[A],B.2.1⟩,?_,?_⟩
 ·rw[C];exact rfl
 ·rw[C];exact B.2.2.2
end L2
end

section
set_option Elab.async false
set_option linter.all false
set_option maxRecDepth 100000
namespace L2
open PySem PySem.Spec PyProof.Rows
section
variable{prog:bZ}{w:World}{A:Around}{E:Zc}{s:Shared}{d v it:Addr}{es:Array mf}{ep i:Nat}
theorem Gd{Q:Zc}(j:(d==iU)=false)(h:Jp s.heap d es ep)
  (q:∀f,f.IsKeyIter s.heap.objs.size d 0 es.size ep->(∀b o,s.heap.get? b=some o->f.get? b=some o)->Q (.ref s.heap.objs.size) { s with heap:=f }):wpAny (model prog w) A (pyIter (.ref d)) Q E s:=by
 obtain⟨o,g,k,a⟩:=h.ex;refine wpAny_pyIter_slot h.ty F.slot_dict_iter <| yq F.slot_dict_iter h.ty F.entry_dict_iter ?_ (F.args_dict_iter_1 _);unfold cc.«dict.__iter__»;refine am ?_;unfold cc.Dict.dictSlotNone;refine am <| wpAny_notOrdered_dict h.ty <| ?_;refine aR (show wpAny _ _ (cc.Dict.showsAll d >>= _) _ _ s from ?_);unfold cc.Dict.showsAll;rw[if_neg (fun z=>by rw[j]at z;cases z)];refine am <| aR <| am <| yS g a <| am <| wpAny_dictEpoch g a ?_;refine am (rC (aR ⟨_,rfl,"dict_keyiterator",_,⟨_,dh _ rfl,rfl⟩,uR.lookup,?_⟩));exact q _ ⟨_,dh _ rfl,rfl,by simp[rawInt]⟩ fun b o e=>a_ _ e
theorem Gb{Q:Option Value->Shared->Prop}(j:s.heap.IsKeyIter it d i es.size ep)(h:Jp s.heap d es ep)(p:i<es.size)
  (q:∀k,k.IsKeyIter it d (i+1) es.size ep->iT it s.heap k->Q (some es[i].key) { s with heap:=k }):wpAny (model prog w) A (pyNext (.ref it)) Q E s:=by
 obtain⟨t,f,l,a⟩:=id j;obtain⟨o,m,u,e⟩:=h.ex;have g:=j.typeIs;unfold pyNext;refine am <| rq <| rp (name:=oJ "__next__") g uR <| yq uR g F.entry_dict_keyiterator_next ?_ (F.args_dict_keyiterator_next_1 _);refine am <| aR <| am <| am ?_
 first|refine am <| yQ g <| aR ?_|refine am <| yP g <| aR ?_
 refine am <| wpAny_fieldsOf f a ?_;simp only[show cc.Dict_items.ownsTuple "dict_keyiterator"=false by decide,l_,if_false];show wpAny _ _ (if(Value.ref d==Value.none)=true then _ else _) _ _ _
 rw[if_neg (show ¬((Value.ref d==Value.none)=true)from jc)];refine am <| aR <| am <| yS m e ?_;rw[if_neg (by simp)];refine am <| aR <| am <| wpAny_dictEpoch m e ?_;rw[if_neg (by simp)];refine aR ?_;simp only[show ¬((i:Int)<0)from by omega,if_false,oQ,kL p];refine am ?_
 first|refine am <| yQ g <| aR ?_|refine am <| yP g <| aR ?_
 refine am <| wpAny_isOneOf_keyiter g ?_;show wpAny _ _ (setField (.ref it) 1 (rawInt ((i:Int)+1)) >>= _) _ _ s;refine am <| wpAny_setField f a (by simp) ?_;have n:(s.heap.update it (Obj.mapFields (·.setIfInBounds 1 (rawInt ((i:Int)+1))))).IsKeyIter it d (i+1) es.size ep:=⟨_,mm _ f (Obj.isFreed_of_fields (Obj.data_mapFields a _)),(Obj.cls_mapFields ..).trans l,by rw[Obj.data_mapFields a];simp[rawInt]⟩;have r:=Heap.IsKeyIter.typeIs (s:={ s with heap:=s.heap.update it (Obj.mapFields (·.setIfInBounds 1 (rawInt ((i:Int)+1)))) }) n;refine am <| j6 <| am <| wpAny_isOneOf_keyiter r ?_;show wpAny _ _ (pure es[i].key) _ _ _;exact aR <| aR ⟨_,rfl,aR <| q _ n (rB ..)⟩
theorem HS{Q:Option Value->Shared->Prop}(p:A.handled=none)(g:s.heap.IsKeyIter it d i es.size ep)(h:Jp s.heap d es ep)(r:es.size<=i)
  (q:∀l,Heap.ExtBut it s.heap l->Q none { s with heap:=l }):wpAny (model prog w) A (pyNext (.ref it)) Q E s:=by
 obtain⟨u,j,t,k⟩:=id g;obtain⟨o,n,x,e⟩:=h.ex;have f:=g.typeIs;unfold pyNext;refine am <| rq <| rp (name:=oJ "__next__") f uR <| yq uR f F.entry_dict_keyiterator_next ?_ (F.args_dict_keyiterator_next_1 _);refine am <| aR <| am <| am ?_
 first|refine am <| yQ f <| aR ?_|refine am <| yP f <| aR ?_
 refine am <| wpAny_fieldsOf j k ?_;simp only[show cc.Dict_items.ownsTuple "dict_keyiterator"=false by decide,l_,if_false];show wpAny _ _ (if(Value.ref d==Value.none)=true then _ else _) _ _ _
 rw[if_neg (show ¬((Value.ref d==Value.none)=true)from jc)];refine am <| aR <| am <| yS n e ?_;rw[if_neg (by simp)];refine am <| aR <| am <| wpAny_dictEpoch n e ?_;rw[if_neg (by simp)];refine aR ?_;simp only[show ¬((i:Int)<0)from by omega,if_false,oQ,uQ r];refine am ?_
 first|refine am <| yQ f <| aR ?_|refine am <| yP f <| aR ?_
 show wpAny _ _ (setField (.ref it) 0 .none >>= _) _ _ s;refine am <| wpAny_setField j k (by simp) ?_;show wpAny _ _ (newExc (.type "StopIteration") [] >>= _) _ _ _;refine am ?_;simp only[newExc,newTuple];refine am <| rC ?_ (by size_fits);refine am (m:=firstArgMember _ _) <| wpAny_of_eq (a:=Value.none) (by first|rfl|(simp only[firstArgMember];rfl)) <| rC ?_ (by size_fits)
 simp only[raiseNew];refine am <| wpAny_handled ?_;rw[show A.in1.handled=none from p];refine am <| aR <| wpAny_throw ?_;refine am (Be (b:=true) (T:="StopIteration") ⟨_,dh _ rfl,rfl⟩ isSubtype_stop (aR (q _ (((rB ..).extBut.push _).push _))))
end
def Mm(d:Addr)(o:Obj)(u:HO)(n:Nat)(ent:Nat->Hp->V->V->Prop):It :=
 ⟨fun i H=>H d=some (.frz o u)/\i<n,fun i H x H'=>H'=H/\∃b,ent i H x b,fun i H=>H d=some (.frz o u)/\n<=i⟩
theorem FA{P:bZ}{w:World}{K:Za}{U:Expr}{d it:Addr}{o:Obj}{u:HO}{n:Nat}{l:Nat->Hp->V->V->Prop}{N:Array mf}{O:Nat}(f:Me P w K d o u n l N O):
  t_ P w K U (Mm d o u n l) [it] it (fun i h=>h.IsKeyIter it d i n O) where
 mem:=by simp
 obj:=fun i h st b j=>by
  have e:b=it:=by simpa using j
  subst e;obtain⟨o,e,c,d⟩:=st;exact⟨o,e,fun v z=>by rw[d]at z;cases z⟩
 keep:=fun i h q st k=>st.at fun o e=>k it (by simp) o e
 item:=by
  intro X x y A Q i T s σ H E I r st B;subst x y A;obtain⟨t,C⟩:=B;have m:i<N.size:=by rw[f.sz];exact C
  obtain⟨g,Y⟩:=(show cZ X.prog X.w X.K H s.heap d (.frz o u)from I.hok d _ t);obtain⟨a,b,en,ra,rb⟩:=f.get m I.hok t;obtain⟨D,G,f2,J,L,M⟩:=r it (by simp);rw[<-f.sz]at st;refine Gb st ⟨o,g,f.ex,f.dat⟩ m fun q p sb=>?_;have I1:Inv X T σ H { s with heap:=q }:=I.turned (t':=s.toks) (fun b o j e=>(sb.2 b j).trans e) D G J L M;obtain⟨oi,e,c,dd⟩:=id p;exact⟨_,rfl,vT (s:={ s with heap:=q }) e c dd (by decide) ⟨a,H,I1,ra,⟨rfl,b,en⟩,by rw[<-f.sz];exact p,fun b j=>(r b j).1⟩⟩
 done:=by
  intro X x y A Q i T s σ H E I r st B;subst x y A;obtain⟨t,C⟩:=B;obtain⟨g,Y⟩:=(show cZ X.prog X.w X.K H s.heap d (.frz o u)from I.hok d _ t);obtain⟨D,G,f2,J,L,M⟩:=r it (by simp);rw[<-f.sz]at st;exact HS (I.ok.hd Q) st ⟨o,g,f.ex,f.dat⟩ (by rw[f.sz];exact C) fun q eb=>⟨rfl,I.turned (t':=s.toks) (fun b o j e=>eb b o j e) D G J L M⟩
 self:=fun _ _ _ _ _ st h=>wpAny_pyIter_keyiter st h
def IR(K:Za)(tl:TE):TI:=fun σ H R=>tl σ H fun x H1=>∃d kvs,x=.ref d /\
 ((H1 d=some (.dT kvs)/\∀o,R (Mm d o (.dT kvs) kvs.length (KI K kvs)) (upd H1 d (.frz o (.dT kvs))))∨∃o,H1 d=some (.frz o (.dT kvs))/\R (Mm d o (.dT kvs) kvs.length (KI K kvs)) H1)
section
variable{X:Cx}{J5:Zd}{σ:St}{l tg:Expr}{tl:TE}
theorem xO{R:It->Hp->Prop}{a:Hp}{s1:Shared}{d:Addr}{o:Obj}{u:HO}{n:Nat}{f:Nat->Hp->V->V->Prop}{m:Array mf}{p:Nat}(i:Me X.prog X.w X.K d o u n f m p)(h:(d==iU)=false)(j:Inv X J5 σ a s1)(e:a d=some (.frz o u))(q:R (Mm d o u n f) a):
  wpAny (model X.prog X.w) X.A (pyIter (.ref d)) (PIE X J5 σ tg R) X.xe s1:=by
 obtain⟨g,_⟩:=(show cZ X.prog X.w X.K a s1.heap d (.frz o u)from j.hok d _ e);refine Gd h ⟨o,g,i.ex,i.dat⟩ fun r k s=>?_;have t:Inv X J5 σ a { s1 with heap:=r,toks:=s1.toks }:=j.kept (t':=s1.toks) s;refine⟨_,[_],_,_,a,rfl,t,FA i,by rw[<-i.sz];exact k,fun b v=>?_,q⟩;have e:b=s1.heap.objs.size:=by simpa using v
 subst e;exact j.fpOk (aB _) (j.hok.fresh (aB _))
theorem Ih(D:PE X l tl):PI X tg l (IR X.K tl):=by
 intro J5 s σ H R I h;refine cS (D J5 s σ H _ I h) fun v s1 k=>?_;obtain⟨x,m,j,E,d,g,ex,q⟩:=k;subst ex;cases E;rcases q with⟨e,q⟩|⟨o,e,q⟩
 ·obtain⟨z,i,xs',n,o,G,J,t,r⟩:=id (show cZ X.prog X.w X.K m s1.heap d (.dT g)from j.hok d _ e);have C:Inv X J5 σ (upd m d (.frz o (.dT g))) { s1 with heap:=s1.heap,toks:=s1.toks } :=
   j.write (x:=d) (e:=d) (t':=s1.toks) (by rw[e];trivial) (.inl rfl) (fun _ _ _ q=>q) ⟨o,t⟩ ⟨t,z,i,xs',Paired.mapP n (fun p q r=>⟨r.1,tG.keeps (fun b L u=>by rw[ai (fun z=>by rw[z,e]at u;cases u)];exact u) 8 r.2.2.1 r.2.1,r.2.2⟩),o,G,J,t,r⟩
  obtain⟨f,y,A,B⟩:=xU C.hok (aa (H:=m) (a:=d));exact xO B f C aa (q o)
 ·obtain⟨f,y,A,B⟩:=xU j.hok e;exact xO B f j e q
end
end L2
end

section
set_option Elab.async false
set_option linter.all false
set_option maxRecDepth 100000
namespace HT
open PySem PySem.Spec PyProof.Rows
end HT
namespace L2
open PySem PySem.Spec PyProof.Rows
end L2
namespace HT
open PySem PySem.Spec PyProof.Rows
end HT
namespace L2
open PySem PySem.Spec PyProof.Rows
end L2
end

section
set_option Elab.async false
set_option linter.all false
set_option maxRecDepth 100000
namespace L2
open PySem PySem.Spec PyProof.Rows
abbrev Lb(K:Za):List V->Hp->VK->Prop:=fun xs H Q=>∃(p:Addr) (ns:List Int),xs=[.ref p]/\ay K H p (ns.map V.int)/\Q (.int ns.sum) H
abbrev xA:R2:=rI IntMulOk fun i j=>.int (i * j)
section
variable{X:Cx}
theorem GP(i:X.calm=true):g9 X (.builtin "sum") (Lb X.K):=by
 intro w s σ H x y Q I r h;obtain⟨p,j,rfl,k,q⟩:=h;obtain⟨u,rfl,l⟩:=vals1 r;cases l;obtain⟨m,n,o,z⟩:=I.list k;obtain⟨a,rfl,f⟩:=Et n;have g:s.heap.IsList p (intItems a.toArray):=by
  have:=o.isList;have e:intItems a.toArray=(a.map fun p=>Value.int p.1 p.2).toArray:=by simp[intItems]
  rw[e];exact this
 refine sum_intListG (I.ok.hd i) g fun A tk t v=>?_;rw[preSum_eq,uP (by simp)];exact⟨.int j.sum,H,I.kept v,⟨t,by rw[<-f]⟩,q⟩
theorem qJ:nL X (j3 .Mult) xA:=Mz fun _ _ _ _ _ _ _ a q=>mul_int q a
end
def Lu(_ j:Int):Prop:=0<j/\j.natAbs.log2<9000
abbrev EB:List V->Hp->VK->Prop:=fun xs H Q=>∃i j,xs=[.int i,.int j]/\Lu i j/\∀p,H p=none->Q (.ref p) (upd H p (.tup [.int (i / j),.int (i % j)]))
def Jv(K:Za)(a:Addr)(n:Nat):It :=
 ⟨fun i H=>i<n/\∃xs,ay K H a xs/\xs.length=n,fun i H x H'=>H'=H/\∀xs,ay K H a xs->xs[n-1-i]?=some x,fun i _=>n<=i⟩
def LW(K:Za)(ta:TA):TI:=fun σ H R=>ta σ H fun vs H1=>∃a xs,vs=[.ref a]/\ay K H1 a xs/\R (Jv K a xs.length) H1
theorem Fa{K:Za}{a:Addr}{xs:List V}{g:TG}{j:TS}{D:on}{σ:St}{H:Hp}(Pv:Nat->St->Hp->Prop)(l:Pv 0 σ H)(n:∀i σ H,i<=xs.length->Pv i σ H->ay K H a xs)
  (o:∀i x σ H,xs[xs.length-1-i]?=some x->i<xs.length->Pv i σ H->g x σ H fun σ2 h=>j { D with nx:=Pv (i+1),ct:=Pv (i+1),bk:=D.nx } σ2 h) (r:∀σ H,Pv xs.length σ H->D.nx σ H) :
  ∃W:Nat->Nat->St->Hp->Prop,(∃m,W 0 m σ H)/\∀i m σ H,W i m σ H ->
   ((Jv K a xs.length).stop i H/\D.nx σ H)∨((Jv K a xs.length).go i H/\∃N:St->Hp->Prop,(∀σ' f,N σ' f->∃k,k<m/\W (i+1) k σ' f)/\∀x f,(Jv K a xs.length).yld i H x f->g x σ f fun σ2 h=>j { D with nx:=N,ct:=N,bk:=D.nx } σ2 h):=by
 refine⟨fun i m σ H=>m=xs.length-i/\i<=xs.length/\Pv i σ H,⟨xs.length,by simp,cL _,l⟩,?_⟩;rintro i m σ H ⟨rfl,s,p⟩;have q:=n i σ H s p;by_cases lt:i<xs.length
 ·refine .inr ⟨⟨lt,xs,q,rfl⟩,Pv (i+1),fun σ' f t=>⟨xs.length-(i+1),by omega,rfl,lt,t⟩,fun x f y=>?_⟩;obtain⟨rfl,y⟩:=y;exact o i x σ _ (y xs q) lt p
 ·have e:i=xs.length:=by omega
  subst e;exact .inl ⟨aB _,r σ H p⟩
theorem wc:lV "reversed"=some (.type "reversed"):=by decide +kernel
section
variable{X:Cx}
theorem AG:g9 X (.builtin "divmod") EB:=by
 intro k s σ H l m Q I r h;obtain⟨i,j,rfl,a,q⟩:=h;obtain⟨u,v,rfl,f,g⟩:=vals2 r;obtain⟨t,rfl⟩:=f;obtain⟨n,rfl⟩:=g;have p:0<j:=a.1;refine divmod_int (by omega) ?_ (.inl (PyProof.noPylong_of_log2 a.2));rw[Int.fdiv_eq_ediv_of_nonneg i (by omega),Int.fmod_eq_emod_of_nonneg i (by omega)];exact⟨.ref s.heap.objs.size,_,I.laid (t':=s.toks+1+1) (fun b o e=>a_ _ e) (aB _) (show cZ X.prog X.w X.K _ _ _ (.tup [.int (i / j),.int (i % j)])from⟨by show 2<=aj;decide,_,.cons ⟨_,rfl⟩ (.cons ⟨_,rfl⟩ .nil),IsTup.new _ _⟩),rfl,q _ (I.hok.fresh (aB _))⟩
theorem Hu{P:bZ}{w:World}{K:Za}{Q:Expr}(a it:Addr)(n:Nat):t_ P w K Q (Jv K a n) [it] it (fun i h=>i<=n/\h.IsRevIter it a ((n:Int)-1-(i:Int))) where
 mem:=by simp
 obj:=fun i h st b g=>by
  have e:b=it:=by simpa using g
  subst e;obtain⟨_,o,e,c,d⟩:=st;exact⟨o,e,fun v z=>by rw[d]at z;cases z⟩
 keep:=fun i h l st k=>⟨st.1,st.2.at fun o e=>k it (by simp) o e⟩
 item:=by
  intro X r t y L i M s σ H E I m st q;subst r t y;obtain⟨T,U,N,hx⟩:=q;obtain⟨Y,O,p,hz⟩:=I.list N;have hl:=O.length;obtain⟨x,ex⟩:∃x,U[n-1-i]?=some x:=⟨_,bM (by omega)⟩;obtain⟨u,hu,ru⟩:=O.get ex;obtain⟨A,B,f2,C,D,G⟩:=m it (by simp);have J:(n:Int)-1-(i:Int)=((n-1-i:Nat):Int):=by omega
  have f:=st.2;rw[J]at f;refine wpAny_pyNext_rev_item f p.isList (x:=u) (by simpa using hu) fun l j sb=>?_;have I1:Inv X M σ H { s with heap:=l }:=I.turned (t':=s.toks) (fun b o g e=>(sb.2 b g).trans e) A B C D G;have e2:((n-1-i:Nat):Int)-1=(n:Int)-1-((i+1:Nat):Int):=by omega
  rw[e2]at j;obtain⟨o,e,c,d⟩:=id j;exact⟨u,rfl,vT (s:={ s with heap:=l }) e c d (by decide) ⟨x,H,I1,ru,⟨rfl,fun ys hy=>by rw[I.list_inj hy N];exact ex⟩,⟨T,j⟩,fun b g=>(m b g).1⟩⟩
 done:=by
  intro X r t y L i M s σ H E I m st q;subst r t y;obtain⟨A,B,f2,C,D,G⟩:=m it (by simp);have q:n<=i:=q;have J:(n:Int)-1-(i:Int)=-1:=by have:=st.1;omega
  have f:=st.2;rw[J]at f;exact wpAny_pyNext_rev_end (I.ok.hd L) f fun l eb=>⟨rfl,I.turned (t':=s.toks) (fun b o g e=>eb b o g e) A B C D G⟩
 self:=fun _ _ _ _ _ st h=>wpAny_pyIter_revIter st.2 h
variable{tg l:Expr}{ta:TA}{p pos:Pos}
theorem Ig(t:Gl X "reversed")(v:X.mg "reversed"=none)(w:PA X [l] ta)(x:aK [l] X.env=[(false,eval l X.env)]:=by rfl):PI X tg (.Call (.Name "reversed" p) [l] [] pos) (LW X.K ta):=by
 intro n s σ H R I h;refine Call_ (k9 I t v wc (sU (cS (w pos n s σ H _ I h) fun J s1 j=>?_) (by rw[x];rfl) (by rfl)));obtain⟨L,r,g,y,z⟩:=j;obtain⟨a,i,e,A,q⟩:=z;subst e;obtain⟨u,rfl,B⟩:=vals1 y;cases B;obtain⟨k,C,D,M⟩:=g.list A;have E:=C.length;refine call_reversed_list D.isList ?_;have e:((k.toArray.size:Nat):Int)-1=(i.length:Int)-1-((0:Nat):Int):=by rw[cf,E];omega
 rw[e];have f:(s1.heap.push (revObj a ((i.length:Int)-1-((0:Nat):Int)))).IsRevIter s1.heap.objs.size a ((i.length:Int)-1-((0:Nat):Int)):=⟨_,dh _ rfl,rfl,rfl⟩;refine wpAny_pyIter_revIter (s:={ s1 with heap:=s1.heap.push (revObj a ((i.length:Int)-1-((0:Nat):Int))) }) f ?_;have m:∀b∈[s1.heap.objs.size],om X n r b:=fun b G=>by
  have e:b=s1.heap.objs.size:=by simpa using G
  subst e;exact g.fpOk (aB _) (g.hok.fresh (aB _))
 exact⟨s1.heap.objs.size,[s1.heap.objs.size],_,_,r,rfl,g.kept (t':=s1.toks) fun b o e=>a_ _ e,Hu a _ _,⟨cL _,f⟩,m,q⟩
end
def AZ(h:Heap)(z TI TO T:Addr):Prop:=∃b:Bool,h.get? z=some { cls:=.type "zip",dict:=none,data:=.fields #[rawInt T,.bool b,.bool false,.ref TI,.ref TO],slots:=#[] }
section
variable{prog:bZ}{w:World}{A:Around}{E:Zc}{s:Shared}
theorem wC{a:Addr}{Q:Option Obj->Shared->Prop}(h:Q (s.heap.get? a) s):wpAny (model prog w) A (loadIfAlive a) Q E s:=fun Γ p _=>by
 unfold loadIfAlive;rw[Sem.wp_loadIfAlive];exact h
theorem xJ{z TI TO T:Addr}{o:Obj}{Q:Bool->Shared->Prop}(a:AZ s.heap z TI TO T)(i:s.heap.get? T=some o)
  (h:∀e,AZ e z TI TO T->iT z s.heap e->Q false { s with heap:=e }):wpAny (model prog w) A (lZ (.ref z)) Q E s:=by
 obtain⟨b,a⟩:=a;unfold lZ;refine am (gR a rfl (x:=rawInt T) rfl ?_);show wpAny _ _ (loadIfAlive ((T:Int).toNat) >>= _) _ _ _;refine am (wC ?_);rw[oQ,i];simp only[Option.isNone_some,l_,if_false];refine am (gR a rfl (x:=.bool b) rfl ?_);cases b with
 |true=>exact aR (h _ ⟨true,a⟩ (iT.refl ..))
 |false=>exact am (rm a (by simp) fun e f g=>aR (h e ⟨true,f⟩ g))
theorem Gx{z TI TO T n p t u:Addr}{B C:Nat}{L M:Array Value}{x y:Value}{o:Obj}{Q:Zc}(D:md z TI TO n p t u)
  (N:AZ s.heap z TI TO T) (hT:s.heap.get? T=some o) (G:IsPair s.heap TI (.ref n) (.ref p))
  (h1:s.heap.IsListIter n t B) (h2:s.heap.IsListIter p u C) (H:s.heap.IsList t L) (I:s.heap.IsList u M) (hx:L[B]?=some x) (hy:M[C]?=some y)
  (hQ:∀h,AZ h z TI TO T->h.IsListIter n t (B+1)->h.IsListIter p u (C+1)->IsPair h s.heap.objs.size x y->h.objs.size=s.heap.objs.size+1 ->
   (∀c o,c≠z->c≠n->c≠p->s.heap.get? c=some o->h.get? c=some o)->Q (.ref s.heap.objs.size) { s with heap:=h }) :
  wpAny (model prog w) A (cc.«zip.__next__» ⟨[.ref z],[]⟩) (fun J s'=>∃v,J=.done (.ret v)/\Q v s') E s:=by
 obtain⟨b,O⟩:=id N;show wpAny _ _ (field (.ref z) 2 >>= _) _ _ _;refine am (gR O rfl (x:=.bool false) rfl ?_);show wpAny _ _ (field (.ref z) 3 >>= _) _ _ _;refine am (gR O rfl (x:=.ref TI) rfl (am (ow G rfl ?_)));show wpAny _ _ (lZ (.ref z) >>= _) _ _ _;refine am (xJ N hT fun U i a=>?_);simp only[l_,if_false];refine am ?_;simp only[<-JB,oM,yO];refine am (am (j6 ?_));show wpAny _ _ (lY (.ref n) >>= _) _ _ _;refine am (rk (h1.extBut a.extBut D.i1z) (H.extBut a.extBut D.l1z) hx fun Y j f=>aR ?_);refine aR (am (am (j6 ?_)));show wpAny _ _ (lY (.ref p) >>= _) _ _ _;refine am (rk ((h2.extBut a.extBut D.i2z).extBut f.extBut D.i12.symm) ((I.extBut a.extBut D.l2z).extBut f.extBut D.l2i1) hy fun q k g=>aR ?_);refine aR (aR ?_);have sz:q.objs.size=s.heap.objs.size:=by rw[g.1,f.1,a.1]
 refine am (wpAny_newTuple (hsz:=by show 2<=aj;decide) ?_);obtain⟨r,l⟩:=i;have m:=g.extBut _ _ D.i2z.symm (f.extBut _ _ D.i1z.symm l);refine aR ⟨_,rfl,?_⟩;rw[sz];refine hQ _ ⟨r,a_ _ m⟩ ((j.extBut g.extBut D.i12).at fun o e=>a_ _ e) (k.at fun o e=>a_ _ e) ?_ (by rw[oq,sz]) fun c o c1 c2 c3 e=>a_ _ (g.extBut _ _ c3 (f.extBut _ _ c2 (a.extBut _ _ c1 e)));rw[<-sz];exact dh _ rfl
theorem IG{z TI TO T j k p q:Addr}{r t:Nat}{u v:Array Value}{o:Obj}{Q:Fin->Shared->Prop}(N:A.handled=none)(D:md z TI TO j k p q)
  (O:AZ s.heap z TI TO T) (hT:s.heap.get? T=some o) (y:IsPair s.heap TI (.ref j) (.ref k))
  (U:s.heap.IsListIter j p r) (h2:s.heap.IsListIter k q t) (l:s.heap.IsList p u) (B:s.heap.IsList q v) (m:u[r]?=none∨v[t]?=none)
  (Y:∀C e,(∀c o,c≠z->c≠j->c≠k->s.heap.get? c=some o->C.get? c=some o)->(∃o,C.get? e=some o/\o.cls=.type "StopIteration")->E (.ref e) { s with heap:=C }) :
  wpAny (model prog w) A (cc.«zip.__next__» ⟨[.ref z],[]⟩) Q E s:=by
 obtain⟨b,gz⟩:=id O;show wpAny _ _ (field (.ref z) 2 >>= _) _ _ _;refine am (gR gz rfl (x:=.bool false) rfl ?_);show wpAny _ _ (field (.ref z) 3 >>= _) _ _ _;refine am (gR gz rfl (x:=.ref TI) rfl (am (ow y rfl ?_)));show wpAny _ _ (lZ (.ref z) >>= _) _ _ _;refine am (xJ O hT fun h₁ G a=>?_);simp only[l_,if_false];refine am ?_;simp only[<-JB,oM,yO];refine am (am (j6 ?_));show wpAny _ _ (lY (.ref j) >>= _) _ _ _;cases H:u[r]? with
 |none=>exact am (wpAny_nextOf_list_end N (U.extBut a.extBut D.i1z) (l.extBut a.extBut D.l1z) H fun g e f I=>Y g e (fun c o J L _ x=>f _ _ L (a.extBut _ _ J x)) I)
 |some x =>
  have hy:v[t]?=none:=by rcases m with h|h;rw[H]at h;cases h;exact h
  refine am (rk (U.extBut a.extBut D.i1z) (l.extBut a.extBut D.l1z) H fun g M f=>aR ?_);refine aR (am (am (j6 ?_)));show wpAny _ _ (lY (.ref k) >>= _) _ _ _;exact am (wpAny_nextOf_list_end N ((h2.extBut a.extBut D.i2z).extBut f.extBut D.i12.symm) ((B.extBut a.extBut D.l2z).extBut f.extBut D.l2i1) hy fun n e i I=>Y n e (fun c o J L c3 x=>i _ _ c3 (f.extBut _ _ L (a.extBut _ _ J x))) I)
theorem Gv{z TI TO T f g h i:Addr}{j k:Nat}{p q:Array Value}{x y:Value}{o:Obj}{Q:Option Value->Shared->Prop}(D:md z TI TO f g h i)
  (r:AZ s.heap z TI TO T) (u:s.heap.get? T=some o) (l:IsPair s.heap TI (.ref f) (.ref g))
  (v:s.heap.IsListIter f h j) (B:s.heap.IsListIter g i k) (m:s.heap.IsList h p) (n:s.heap.IsList i q) (C:p[j]?=some x) (G:q[k]?=some y)
  (H:∀a,AZ a z TI TO T->a.IsListIter f h (j+1)->a.IsListIter g i (k+1)->IsPair a s.heap.objs.size x y->a.objs.size=s.heap.objs.size+1 ->
   (∀c o,c≠z->c≠f->c≠g->s.heap.get? c=some o->a.get? c=some o)->Q (some (.ref s.heap.objs.size)) { s with heap:=a }):wpAny (model prog w) A (pyNext (.ref z)) Q E s:=by
 have t:s.TypeIs (.ref z) "zip":=let⟨_,e⟩:=r;⟨_,e,rfl⟩;unfold pyNext;exact am (rq (rp (name:=oJ "__next__") t lX
  (yq lX t yN (Gx D r u l v B m n C G fun a a1 a2 a3 I J L=>aR (H a a1 a2 a3 I J L)) (yM _))))
theorem Gu{z TI TO T f g h i:Addr}{n p:Nat}{q r:Array Value}{o:Obj}{Q:Option Value->Shared->Prop}(v:A.handled=none)(D:md z TI TO f g h i)
  (t:AZ s.heap z TI TO T) (x:s.heap.get? T=some o) (j:IsPair s.heap TI (.ref f) (.ref g))
  (y:s.heap.IsListIter f h n) (B:s.heap.IsListIter g i p) (k:s.heap.IsList h q) (l:s.heap.IsList i r) (a:q[n]?=none∨r[p]?=none)
  (C:∀m,(∀c o,c≠z->c≠f->c≠g->s.heap.get? c=some o->m.get? c=some o)->Q none { s with heap:=m }):wpAny (model prog w) A (pyNext (.ref z)) Q E s:=by
 have u:s.TypeIs (.ref z) "zip":=let⟨_,e⟩:=t;⟨_,e,rfl⟩;unfold pyNext;refine am (rq (rp (name:=oJ "__next__") u lX
  (yq lX u yN (IG v D t x j y B k l a fun m e G H=>?_) (yM _))))
 obtain⟨o,I,J⟩:=H;exact am (Be (T:="StopIteration") (b:=true) ⟨o,I,J⟩ isSubtype_stop (aR (C _ G)))
end
structure gt(B:Nat)(S:Addr)(xs ys:Array Value)(h:Heap)(acc:Array Value)(ts:Ze)(i:Nat):Prop where
 is:acc.toList=ts.map .ref
 len:ts.length=i
 at':∀(j:Nat) t,ts[j]?=some t->B<=t/\∃x y,xs[j]?=some x/\ys[j]?=some y/\IsPair h t x y
 uni:ts.Nodup
theorem gt.keep{B:Nat}{S:Addr}{g l:Array Value}{h m:Heap}{f:Array Value}{n:Ze}{i:Nat}(d:gt B S g l h f n i)(k:∀c o,B<=c->h.get? c=some o->m.get? c=some o):gt B S g l m f n i :=
 ⟨d.is,d.len,fun j t e=>let⟨a,x,y,b,c,q⟩:=d.at' j t e;⟨a,x,y,b,c,k _ _ a q⟩,d.uni⟩
theorem gt.push{B:Nat}{S:Addr}{k l:Array Value}{h:Heap}{f:Array Value}{m:Ze}{i:Nat}{T:Addr}{x y:Value}(d:gt B S k l h f m i)(hB:B<=T)(o:T∉m)(p:k[i]?=some x)(r:l[i]?=some y)(s:IsPair h T x y):
  gt B S k l h (f.push (.ref T)) (m++[T]) (i+1):=by
 refine⟨by simp[d.is],by simp[d.len],fun j t e=>?_,?_⟩
 ·rw[List.getElem?_append]at e;split at e
  ·exact d.at' j t e
  ·rename_i g;rw[d.len]at g e;have u:j-i=0:=by
    rcases Nat.eq_zero_or_pos (j-i)with q|q
    ·exact q
    ·rw[yV (by simp;omega)]at e;cases e
   rw[u]at e;have v:j=i:=by omega
   subst v;simp at e;subst e;exact⟨hB,x,y,p,r,s⟩
 ·rw[d7];refine⟨d.uni,by simp,fun a w b n=>?_⟩;simp at n;subst n;exact fun q=>o (q▸w)
section
variable{prog:bZ}{w:World}{A:Around}{R:Result->Shared->Prop}
theorem Gw{z TI TO T₁ E G H I S:Addr}{B:Nat}{l m:Array Value}(hh:A.handled=none)(D:md z TI TO E G H I)(bz:z<B)(bI:TI<B)(b1:E<B)(U:G<B)(c1:H<B)(c2:I<B)(bS:S<B)
  (sz:S≠z) (sI:S≠TI) (s1:S≠E) (s2:S≠G) (al:S≠H) (an:S≠I) (hn:l.size<=aj) (J:Value) :
  ∀(k i:Nat) (s:Shared) (acc:Array Value) (c:Nat) (u:Ze),min l.size m.size-i=k->i<=min l.size m.size->AZ s.heap z TI TO T₁->T₁∈u->IsPair s.heap TI (.ref E) (.ref G) ->
  s.heap.IsListIter E H i->s.heap.IsListIter G I i->s.heap.IsList H l->s.heap.IsList I m->s.heap.get? S=some { cls:=.type "list",dict:=none,data:=.seq acc c,slots:=#[] }->gt B S l m s.heap acc u i ->
  (∀n a c' C,(∀b o,b≠S->b≠z->b≠E->b≠G->s.heap.get? b=some o->n.get? b=some o)->n.get? S=some { cls:=.type "list",dict:=none,data:=.seq a c',slots:=#[] }->gt B S l m n a C (min l.size m.size)->R (.ok (.ret J)) { s with heap:=n }) ->
  zzl77 (model prog w) A (.builtin "list.extend.loop" ⟨[.ref S,.ref z,J],[]⟩) R s:=by
 intro k
 induction k with
 |zero =>
  intro i s acc c u L hi hz Y p h1 h2 r t hS d hR;have e:i=min l.size m.size:=by omega
  obtain⟨j,hj⟩:=kK Y;obtain⟨gT,x,y,_,_,qT⟩:=d.at' j _ hj;refine l9 F.entry_extend_loop ?_;rw[l7 rh _];show wpAny _ A.in1 (pyNext (.ref z) >>= _) _ _ s;refine am (Gu hh D hz qT p h1 h2 r t ?_ fun n L=>?_)
  ·rcases Nat.le_total l.size m.size with q|q
   ·exact .inl (uQ (by omega))
   ·exact .inr (uQ (by omega))
  ·exact aR (hR n acc c u (fun b o _ U b3 b4 q=>L b o U b3 b4 q) (L S _ sz s1 s2 hS) (e▸d.keep fun c o g q=>L c o (eX (dZ bz g)) (eX (dZ b1 g)) (eX (dZ U g)) q))
 |succ k ih =>
  intro i s acc c u L hi hz Y p h1 h2 r t hS d hR;obtain⟨j,hj⟩:=kK Y;obtain⟨gT,x,y,_,_,qT⟩:=d.at' j _ hj;have ix:i<l.size:=by omega
  have iy:i<m.size:=by omega
  refine l9 F.entry_extend_loop ?_;rw[l7 rh _];show wpAny _ A.in1 (pyNext (.ref z) >>= _) _ _ s;refine am (Gv D hz qT p h1 h2 r t (kL ix) (kL iy) fun n a1 a2 a3 a4 a5 h=>?_);have M:=h S _ sz s1 s2 hS;have v:acc.size=i:=by rw[<-lT,d.is,ah,d.len]
  have up:∀f:Obj->Obj,∀b o,b≠S->n.get? b=some o->(n.update S f).get? b=some o:=fun f b o hb q=>(rH _ _ (b_ hb)).trans q;have lt:T₁<s.heap.objs.size:=aM qT;have dn:gt B S l m n acc u i:=d.keep fun c o g q=>h c o (eX (dZ bz g)) (eX (dZ b1 g)) (eX (dZ U g)) q;have N:s.heap.objs.size∉u:=fun q=>by
   obtain⟨j',ap⟩:=kK q;obtain⟨_,_,_,_,_,q'⟩:=d.at' j' _ ap;exact lG _ (aM q')
  have as:=dn.push (T:=s.heap.objs.size) (cW (uV gT lt)) N (kL ix) (kL iy) a4;show wpAny _ A.in1 (uN S (·.push (.ref s.heap.objs.size)) >>= _) _ _ _;refine am (uM M rfl (aR ⟨oK rh _,ih (i+1) _ (acc.push (.ref s.heap.objs.size)) _ (u++[s.heap.objs.size]) (by omega) (by omega) ?_ (by simp[Y]) (up _ _ _ sI.symm (h _ _ D.TIz D.TIi1 D.TIi2 p)) (a2.at fun o q=>up _ _ o s1.symm q) (a3.at fun o q=>up _ _ o s2.symm q)
   (r.at fun o q=>up _ _ o al.symm (h _ o D.l1z D.l1i1 D.l1i2 q)) (t.at fun o q=>up _ _ o an.symm (h _ o D.l2z D.l2i1 D.l2i2 q)) (mm _ M rfl) (as.keep fun c o g q=>up _ c o (eX (dZ bS g)) q) fun aC a c' C O Q hd=>?_⟩) (by rw[v];omega) (by show(acc.push _).size<=aj+1;rw[Array.size_push,v];omega))
  ·obtain⟨b,q⟩:=a1;exact⟨b,up _ _ _ sz.symm q⟩
  ·exact hR aC a c' C (fun b o e1 e2 e3 e4 q=>O b o e1 e2 e3 e4 (up _ b o e1 (h b o e2 e3 e4 q))) Q hd
theorem JC{z TI TO u v y C S:Addr}{a b:Value}{n x:Array Value}{s:Shared}{c:Nat}(hh:A.handled=none)(D:md z TI TO u v y C)
  (sz:S≠z) (sI:S≠TI) (sO:S≠TO) (M:S≠u) (N:S≠v) (E:S≠y) (G:S≠C) (hn:n.size<=aj) (p:Value)
  (Q:IsZip s.heap z TI TO .none) (h:IsPair s.heap TI (.ref u) (.ref v)) (H:IsPair s.heap TO a b)
  (T:s.heap.IsListIter u y 0) (U:s.heap.IsListIter v C 0) (i:s.heap.IsList y n) (k:s.heap.IsList C x) (O:s.heap.get? S=some { cls:=.type "list",dict:=none,data:=.seq #[] c,slots:=#[] })
  (hR:∀l g Y r,(∀b o,b≠S->b≠z->b≠TO->b≠u->b≠v->s.heap.get? b=some o->l.get? b=some o)->l.get? S=some { cls:=.type "list",dict:=none,data:=.seq g Y,slots:=#[] }->gt s.heap.objs.size S n x l g r (min n.size x.size)->R (.ok (.ret p)) { s with heap:=l }) :
  zzl77 (model prog w) A (.builtin "list.extend.loop" ⟨[.ref S,.ref z,p],[]⟩) R s:=by
 refine l9 F.entry_extend_loop ?_;rw[l7 rh _];show wpAny _ A.in1 (pyNext (.ref z) >>= _) _ _ s;rcases Nat.eq_zero_or_pos (min n.size x.size)with e|e
 ·refine am (wpAny_pyNext_zip_end hh D Q h H T U i k ?_ fun l m=>?_)
  ·rcases Nat.le_total n.size x.size with q|q
   ·exact .inl (uQ (by omega))
   ·exact .inr (uQ (by omega))
  ·exact aR (hR l #[] c [] (fun b o _ b2 b3 b4 b5 q=>m b o b2 b3 b4 b5 q) (m S _ sz sO M N O) (e▸⟨rfl,rfl,fun j t q=>by simp at q,.nil⟩))
 ·have ix:0<n.size:=by omega
  have iy:0<x.size:=by omega
  refine am (wpAny_pyNext_zip_item D Q h H T U i k (kL ix) (kL iy) fun l a1 a2 a3 a4 a5 a6 m=>?_);have I:=m S _ sz sO M N O;have up:∀f:Obj->Obj,∀b o,b≠S->l.get? b=some o->(l.update S f).get? b=some o:=fun f b o hb q=>(rH _ _ (b_ hb)).trans q;have tn:s.heap.objs.size≠S:=eX (aM O);have lz:z<s.heap.objs.size:=aM Q;have lI:TI<s.heap.objs.size:=aM h;have al:u<s.heap.objs.size:=let⟨_,e,_⟩:=T;aM e;have an:v<s.heap.objs.size:=let⟨_,e,_⟩:=U;aM e;have ap:y<s.heap.objs.size:=let⟨_,e,_⟩:=i;aM e;have as:C<s.heap.objs.size:=let⟨_,e,_⟩:=k;aM e;show wpAny _ A.in1 (uN S (·.push (.ref s.heap.objs.size)) >>= _) _ _ _;refine am (uM I rfl (aR ⟨oK rh _,Gw (T₁:=s.heap.objs.size) (B:=s.heap.objs.size) hh D lz lI al an ap as (aM O) sz sI M N E G hn p _ 1 _ (#[].push (.ref s.heap.objs.size)) _ [s.heap.objs.size] rfl (by omega) ⟨false,up _ _ _ sz.symm a1⟩ (by simp)
   (up _ _ _ sI.symm (m _ _ D.TIz D.TITO D.TIi1 D.TIi2 h)) (a3.at fun o q=>up _ _ o M.symm q) (a4.at fun o q=>up _ _ o N.symm q) (i.at fun o q=>up _ _ o E.symm (m _ o D.l1z D.l1TO D.l1i1 D.l1i2 q)) (k.at fun o q=>up _ _ o G.symm (m _ o D.l2z D.l2TO D.l2i1 D.l2i2 q))
   (mm _ I rfl) ⟨rfl,rfl,fun j t q=>?_,by simp⟩ fun aC g Y r J L hd=>?_⟩) (by show(#[]:Array Value).size<=_;simp) (by show(#[Value.ref s.heap.objs.size]:Array Value).size<=aj+1;simp))
  ·cases j with
   |zero =>
    simp at q;subst q;exact⟨aB _,_,_,kL ix,kL iy,up _ _ _ tn a5⟩
   |succ j=>simp at q
  ·exact hR aC g Y r (fun b o e1 e2 e3 e4 e5 q=>J b o e1 e2 e4 e5 (up _ b o e1 (m b o e2 e3 e4 e5 q))) L hd
theorem CO:u3 (.type "zip") "__len__"=pure none:=by rw[typeLookup_type,builtinLookup_eq_fast];kernel_rfl
theorem Bf:u3 (.type "zip") "__length_hint__"=pure none:=by rw[typeLookup_type,builtinLookup_eq_fast];kernel_rfl
structure wj(h:Heap)(z TI TO i1 i2 l1 l2:Addr)(xs ys:Array Value):Prop where
 ap:md z TI TO i1 i2 l1 l2
 zp:IsZip h z TI TO .none
 ti:IsPair h TI (.ref i1) (.ref i2)
 to:∃a b,IsPair h TO a b
 j1:h.IsListIter i1 l1 0
 j2:h.IsListIter i2 l2 0
 k1:h.IsList l1 xs
 k2:h.IsList l2 ys
theorem wj.keep{h l:Heap}{z TI TO f g i j:Addr}{m n:Array Value}(Z:wj h z TI TO f g i j m n){S:Addr}(e:∀b,b=z∨b=TI∨b=TO∨b=f∨b=g∨b=i∨b=j->b≠S)(k:∀b o,b≠S->h.get? b=some o->l.get? b=some o):wj l z TI TO f g i j m n :=
 ⟨Z.ap,k _ _ (e _ (by simp)) Z.zp,k _ _ (e _ (by simp)) Z.ti,let⟨a,b,q⟩:=Z.to;⟨a,b,k _ _ (e _ (by simp)) q⟩,Z.j1.at fun o q=>k _ o (e _ (by simp)) q,Z.j2.at fun o q=>k _ o (e _ (by simp)) q,Z.k1.at fun o q=>k _ o (e _ (by simp)) q,Z.k2.at fun o q=>k _ o (e _ (by simp)) q⟩
theorem wj.old{h:Heap}{z TI TO a e f g:Addr}{i j:Array Value}(Z:wj h z TI TO a e f g i j):∀b,b=z∨b=TI∨b=TO∨b=a∨b=e∨b=f∨b=g->b<h.objs.size:=by
 intro b k;rcases k with rfl|rfl|rfl|rfl|rfl|rfl|rfl
 ·exact aM Z.zp
 ·exact aM Z.ti
 ·obtain⟨_,_,q⟩:=Z.to;exact aM q
 ·obtain⟨_,q,_⟩:=Z.j1;exact aM q
 ·obtain⟨_,q,_⟩:=Z.j2;exact aM q
 ·obtain⟨_,q,_⟩:=Z.k1;exact aM q
 ·obtain⟨_,q,_⟩:=Z.k2;exact aM q
theorem Fw{z TI TO v x E G S:Addr}{r y:Array Value}{s:Shared}{c:Nat}(L:A.handled=none)(Z:wj s.heap z TI TO v x E G r y)(i:∀b,b=z∨b=TI∨b=TO∨b=v∨b=x∨b=E∨b=G->b≠S)(M:r.size<=aj)(h:Value)
  (H:s.heap.get? S=some { cls:=.type "list",data:=.seq #[] c })
  (N:∀l g m j,(∀b o,b≠S->b≠z->b≠TO->b≠v->b≠x->s.heap.get? b=some o->l.get? b=some o)->l.get? S=some { cls:=.type "list",dict:=none,data:=.seq g m,slots:=#[] }->gt s.heap.objs.size S r y l g j (min r.size y.size)->R (.ok (.ret h)) { s with heap:=l }) :
  wpAny (model prog w) A.in1 (cc.List.listExtendWith (.ref S) (.ref z) h)
   (fun B t=>match B with | .done f=>R (.ok f) t | .again m=>m.quiet=true/\zzl77 (model prog w) A m R t) (fun e t=>R (.error e) t) s:=by
 have C:s.TypeIs (.ref z) "zip":=⟨_,Z.zp,rfl⟩;unfold cc.List.listExtendWith;refine am (yR C ?_);have O:cc.List.listSameRef (.ref S) (.ref z)=false:=by simp[cc.List.listSameRef,(i z (by simp)).symm]
 have Q:(Value.type "zip"==Value.type "list")=false:=by decide
 have T:(Value.type "zip"==Value.type "tuple")=false:=by decide
 simp only[O,Q,T,Bool.or_false,l_,if_false];refine am (uU Z.zp (am (j6 ?_)));unfold cc.List.listLengthHint;refine am (Fv C CO ?_);show wpAny _ A.in1 (specialOf (Value.ref z) (oJ "__length_hint__") >>= _) _ _ _;refine am (Fv C Bf (aR ?_));show wpAny _ A.in1 (rule "list.extend.makes-room" >>= fun _=>cc.List.listTouch (.ref S) >>= fun _=>again (.builtin "list.extend.loop" ⟨[.ref S,.ref z,h],[]⟩)) _ _ _;refine am (sY (am ?_));show wpAny _ A.in1 (uN S (·.push .none) >>= fun _=>uN S (·.pop)) _ _ _;refine am (uM H rfl ?_);have I:=mm (iO (·.push Value.none)) H rfl;refine uM (hz:=by seq_fits) I rfl ?_;have U:=mm (iO (·.pop)) I rfl;have p:∀b o,b≠S->s.heap.get? b=some o->((s.heap.update S (iO (·.push Value.none))).update S (iO (·.pop))).get? b=some o :=
  fun b o u e=>(rH _ _ (b_ u)).trans ((rH _ _ (b_ u)).trans e)
 have k:=Z.keep i p;obtain⟨a,b,Y⟩:=k.to;have n:=fun b u=>(i b u).symm;refine aR ⟨oK rh _,JC L Z.ap (n _ (by simp)) (n _ (by simp)) (n _ (by simp)) (n _ (by simp)) (n _ (by simp)) (n _ (by simp)) (n _ (by simp)) M h k.zp k.ti Y k.j1 k.j2 k.k1 k.k2 U fun l g m j hk D hd=>?_⟩;refine N l g m j (fun b o J f2 f3 f4 f5 q=>hk b o J f2 f3 f4 f5 (p b o J q)) D ?_;have es:(((s.heap.update S (iO (·.push Value.none))).update S (iO (·.pop))).objs.size)=s.heap.objs.size:=by simp[Heap.update]
 exact es▸hd
end
def jW(H:Hp):List Addr->List V->List V->Hp
 |t::ts,x::xs,y::ys=>jW (upd H t (.tup [x,y])) ts xs ys
 |_,_,_=>H
theorem kq:∀{a:Ze}{e f:List V}{H:Hp}{b:Addr},b∉a->jW H a e f b=H b
 |[],_,_,_,_,_=>by simp[jW]
 |_::_,[],_,_,_,_=>by simp[jW]
 |_::_,_::_,[],_,_,_=>by simp[jW]
 |t::a,x::e,y::f,H,b,h=>by
  rw[jW,kq (fun q=>h (dY _ q))];exact ai (fun q:b=t=>h (by rw[q];exact dQ))
theorem Ak:∀{a:Ze}{f g:List V}{H:Hp}{j:Nat}{t:Addr}{x y:V},a.Nodup->a[j]?=some t->f[j]?=some x->g[j]?=some y->jW H a f g t=some (.tup [x,y])
 |[],_,_,_,j,_,_,_,_,e,_,_=>by simp at e
 |_::_,[],_,_,j,_,_,_,_,_,e,_=>by simp at e
 |_::_,_::_,[],_,j,_,_,_,_,_,_,e=>by simp at e
 |t::a,x::f,y::g,H,0,l,m,o,n,h,i,k=>by
  simp at h i k;subst h i k;rw[jW,kq (h_.mp n).1,aa]
 |t::a,x::f,y::g,H,j+1,l,m,o,n,h,i,k=>by
  rw[jW];exact Ak (h_.mp n).2 (by simpa using h) (by simpa using i) (by simpa using k)
section
variable{X:Cx}{J5:Zd}{σ:St}{H:Hp}{s:Shared}{h':Heap}
theorem Inv.many{g:Hp}{N:Ze}{t':Nat}(I:Inv X J5 σ H s)(k:∀b u,s.heap.get? b=some u->h'.get? b=some u)(h:∀a∈N,s.heap.objs.size<=a)(f:∀b,b∉N->g b=H b)(new:∀a∈N,∀o,g a=some o->cZ X.prog X.w X.K g h' a o):
  Inv X J5 σ g { s with heap:=h',toks:=t' }:=by
 have old:∀b o,H b=some o->b∉N:=fun b o e q=>lG _ (dZ (I.hok.lt e) (h b q));have same:∀b o,H b=some o->g b=some o:=fun b o e=>by rw[f b (old b o e)];exact e
 refine I.un ⟨fun b u q _ _ _=>k b u q,fun b u q _ _ _=>⟨u.slots,k b u q⟩,fun b u q n _=>?_,fun b u q _=>⟨u,k b u q⟩,fun b j q=>same b _ q,fun b o u q=>same b _ q,fun b l q=>⟨#[],by rw[same b _ q];simp⟩⟩ fun b o e=>?_
 ·rw[f b fun z=>lG _ (dZ (aM q) (h b z))];exact n
 ·by_cases i:b∈N
  ·exact new b i o e
  ·rw[f b i]at e;exact(I.hok b o e).stay (fun c v _ q=>k c v q) (fun c q=>same c _ q) fun c j q=>same c _ q
theorem K4{f:List V}{g:Zf}(r:bg f g):∀{j:Nat}{u:Value},g[j]?=some u->∃v,f[j]?=some v/\RelV v u:=by
 induction r with
 |nil=>intro j u e;simp at e
 |cons a _ h =>
  intro j u e;cases j with
  |zero=>simp at e;subst e;exact⟨_,rfl,a⟩
  |succ j=>exact h (by simpa using e)
theorem Er:∀a:List Addr,bg (a.map V.ref) (a.map Value.ref)
 |[]=>.nil
 |t::a=>.cons rfl (Er a)
variable{p p2 pos pos2:Pos}
end
end L2
namespace L2
open PySem PySem.Spec PyProof.Rows
section
variable{prog:bZ}{w:World}{A:Around}{E:Zc}{s:Shared}{z TI TO i1 i2 l1 l2:Addr}{xs ys:Array Value}
theorem AB{R:Result->Shared->Prop}(i:A.handled=none)(Z:wj s.heap z TI TO i1 i2 l1 l2 xs ys)(j:xs.size<=aj)
  (k:∀f a h e,(∀b o,b≠z->b≠TO->b≠i1->b≠i2->s.heap.get? b=some o->f.get? b=some o)->f.get? s.heap.objs.size=some { cls:=.type "list",dict:=none,data:=.seq a h,slots:=#[] }->gt (s.heap.objs.size+1) s.heap.objs.size xs ys f a e (min xs.size ys.size)->R (.ok (.ret (.ref s.heap.objs.size))) { s with heap:=f }) :
  zzl77 (model prog w) A (.builtin "proto.collect" ⟨[.ref z],[]⟩) R s:=by
 refine l9 F.entry_proto_collect ?_;rw[l7 F.plain_proto_collect _];show wpAny _ A.in1 (newList [] >>= fun l=>again (.builtin "list.__iadd__" ⟨[l,.ref z],[]⟩)) _ _ s;refine am (rC ?_);refine aR ⟨oK F.plain_list_iadd _,l9 F.entry_list_iadd ?_⟩;rw[l7 F.plain_list_iadd _];show wpAny _ A.in1 (cc.List.listExtendWith (.ref s.heap.objs.size) (.ref z) (.ref s.heap.objs.size)) _ _ _;have m:(s.heap.push { cls:=.type "list",data:=.seq ([]:Zf).toArray }).get? s.heap.objs.size=some { cls:=.type "list",data:=.seq ([]:Zf).toArray }:=dh _ rfl;have ne:∀b,b=z∨b=TI∨b=TO∨b=i1∨b=i2∨b=l1∨b=l2->b≠s.heap.objs.size:=fun b n=>cX (Z.old b n);refine Fw (R:=R) (s:={ s with heap:=s.heap.push { cls:=.type "list",data:=.seq ([]:Zf).toArray } }) i (Z.keep ne fun b o _ q=>a_ _ q) ne j _ m fun f a h e p g d=>?_;refine k f a h e (fun b o r t u v q=>p b o (cX (aM q)) r t u v (a_ _ q)) g ?_;rw[<-oq s.heap { cls:=.type "list",data:=.seq ([]:Zf).toArray }];exact d
theorem Cp{Q:List Value->Shared->Prop}(i:A.handled=none)(Z:wj s.heap z TI TO i1 i2 l1 l2 xs ys)(j:xs.size<=aj)
  (k:∀f h,(∀b o,b≠z->b≠TO->b≠i1->b≠i2->s.heap.get? b=some o->f.get? b=some o)->gt (s.heap.objs.size+1) s.heap.objs.size xs ys f (h.map Value.ref).toArray h (min xs.size ys.size)->Q (h.map .ref) { s with heap:=f }) :
  wpAny (model prog w) A (collect (.ref z)) Q E s:=by
 unfold collect;refine am (wpAny_runValue (AB i Z j fun f a p e l g d=>?_));show wpAny _ A (load s.heap.objs.size >>= _) _ _ _;refine am (wpAny_load g (aR ?_));have m:a=(e.map Value.ref).toArray:=by rw[<-d.is]
 have n:a.toList=e.map Value.ref:=d.is;rw[n];exact k f e l (m▸d)
theorem wD{a:Zc}(l:A.handled=none)(Z:wj s.heap z TI TO i1 i2 l1 l2 xs ys)(m:xs.size<=aj)
  (h:∀f e,(∀b o,b≠z->b≠TO->b≠i1->b≠i2->s.heap.get? b=some o->f.get? b=some o)->gt (s.heap.objs.size+1) s.heap.objs.size xs ys f (e.map Value.ref).toArray e (min xs.size ys.size)->a (.ref f.objs.size) { s with heap:=f.push { cls:=.type "tuple",data:=.seq (e.map Value.ref).toArray } }) :
  zzl77 (model prog w) A (.call (.builtin "tuple.__new__") ⟨[.type "tuple",.ref z],[]⟩) (wants a E) s:=by
 refine codeAny_of_tree ?_;show wpAny _ A.in1 (do checkBuiltinCall "tuple.__new__" ⟨[.type "tuple",.ref z],[]⟩;again (.builtin "tuple.__new__" ⟨[.type "tuple",.ref z],[]⟩)) _ _ s
 refine am (wpAny_of_eq (F.newCall_tuple_1 _) (aR ⟨oK F.plain_tuple_new _,l9 F.entry_tuple_new ?_⟩));rw[l7 F.plain_tuple_new _];have k:=sub_tuple_self;have g:=init_tuple_lookup;have n:=madeHere_tuple;have i:s.TypeIs (.ref z) "zip":=⟨_,Z.zp,rfl⟩;have j:A.in1.handled=none:=l
 wp_walk using yR i,Cp j Z m
 intro f e p d;show wpAny _ _ (cc.Tuple.tupleExact (e.map Value.ref).toArray >>= fun v=>ret v) _ _ _;unfold cc.Tuple.tupleExact;refine am (rC ?_ (by show(e.map Value.ref).toArray.size<=aj;simp only[cf,ah];rw[d.len];omega));exact aR (h f e p d)
theorem Cu{Q:Zc}(i:A.handled=none)(Z:wj s.heap z TI TO i1 i2 l1 l2 xs ys)(j:xs.size<=aj)
  (k:∀g h,(∀b o,b≠z->b≠TO->b≠i1->b≠i2->s.heap.get? b=some o->g.get? b=some o)->gt (s.heap.objs.size+1) s.heap.objs.size xs ys g (h.map Value.ref).toArray h (min xs.size ys.size)->Q (.ref g.objs.size) { s with heap:=g.push { cls:=.type "tuple",data:=.seq (h.map Value.ref).toArray } }) :
  wpAny (model prog w) A (call (.type "tuple") [.ref z]) Q E s:=by
 refine callType_codes (Q₁:=fun f a=>a.TypeIs f "tuple"/\Q f a) F.called_tuple (F.typeCall_tuple_1 _) F.entry_object_init
  (wD (A:=A.in1) i Z j fun g h l d=>⟨⟨_,dh _ rfl,rfl⟩,k g h l d⟩) fun f a e=>?_
 exact⟨e.1,F.args_object_init_2 f _,object_init_meets F.called_tuple.init.lookup F.called_tuple.made (by decide) prog w A.in1 _ a ⟨e.1,rfl,e.2⟩⟩
end
section
variable{X:Cx}{p p2 pos pos2:Pos}
def vh(K:Za)(ta:TA):TE:=fun σ H Q=>ta σ H fun vs H1=>∃a b xs ys,vs=[.ref a,.ref b]/\ay K H1 a xs/\ay K H1 b ys /\
 ∀(D:Addr) (ts:Ze),H1 D=none->(∀t∈ts,H1 t=none)->(D::ts).Nodup->ts.length=min xs.length ys.length->Q (.ref D) (upd (jW H1 ts xs ys) D (.tup (ts.map .ref)))
theorem s_{a b:Expr}{ta:TA}(hc:X.calm=true)(hl:Gl X "tuple")(C:X.mg "tuple"=none)(hg:Gl X "zip")(hm:X.mg "zip"=none)(k:PA X [a,b] ta)(hs:aK [a,b] X.env=[(false,eval a X.env),(false,eval b X.env)]:=by rfl)(l:aK [b] X.env=[(false,eval b X.env)]:=by rfl)
  (m:aK [.Call (.Name "zip" p) [a,b] [] pos] X.env=[(false,eval (.Call (.Name "zip" p) [a,b] [] pos) X.env)]:=by rfl) :
  PE X (.Call (.Name "tuple" p2) [.Call (.Name "zip" p) [a,b] [] pos] [] pos2) (vh X.K ta):=by
 intro J5 s σ H Q I h;refine Call_ (k9 I hl C de (sU ?_ (by rw[m];rfl) (by rfl)));rw[m];show wpAny _ _ (spliced ((false,eval (.Call (.Name "zip" p) [a,b] [] pos) X.env)::[])) _ _ s;refine A_ ?_;refine Call_ (k9 I hg hm boot_zip (sU (cS (k pos J5 s σ H _ I h) fun us s1 D=>?_) (by rw[hs,l]) (by rw[l];rfl)));obtain⟨vs,H1,n,r1,q1⟩:=D;obtain⟨l1,l2,xs,ys,e,hx,hy,q⟩:=q1;subst e;obtain⟨u,v,rfl,ru,rv⟩:=vals2 r1;cases ru;cases rv;obtain⟨E,rx,G,zx⟩:=n.list hx;obtain⟨J,ry,L,zy⟩:=n.list hy;obtain⟨o1,n1,e1,_⟩:=id G;obtain⟨o2,n2,e2,_⟩:=id L;refine call_zip_2 G.isList L.isList fun M a1 a2 a3 a4 a5 a6 O=>?_;refine Eg ?_;have Z:wj M (s1.heap.objs.size+4) (s1.heap.objs.size+2) (s1.heap.objs.size+3) s1.heap.objs.size (s1.heap.objs.size+1) l1 l2 E.toArray J.toArray :=
  ⟨zipApart_new (aM e1) (aM e2),a1,a2,⟨_,_,a3⟩,a4,a5,G.isList.at fun o q=>O _ o q,L.isList.at fun o q=>O _ o q⟩
 have lx:=rx.length;have ly:=ry.length;refine Cu (s:={ s1 with heap:=M }) (I.ok.hd hc) Z (by simp;omega) fun g f r d=>?_;have A:∀b o,s1.heap.get? b=some o->g.get? b=some o:=fun b o q=>by
  have lt:=aM q;exact r b o (cX (dZ lt (fo _ 4))) (cX (dZ lt (fo _ 3))) (cX lt) (cX (dZ lt (fo _ 1))) (O b o q)
 have T:∀b o,s1.heap.get? b=some o->(g.push { cls:=.type "tuple",data:=.seq (f.map Value.ref).toArray }).get? b=some o:=fun b o q=>a_ _ (A b o q);have U:(yL { s1 with heap:=M }).objs.size=s1.heap.objs.size+5:=a6;have B:∀(j:Nat) t,f[j]?=some t->s1.heap.objs.size<=t/\t<g.objs.size:=fun j t i=>by
  obtain⟨g1,x,y,_,_,g2⟩:=d.at' j t i;rw[U]at g1;exact⟨aD (fo _ 6) g1,aM g2⟩
 have nD:g.objs.size∉f:=fun q=>by
  obtain⟨j,i⟩:=kK q;exact lG _ (B j _ i).2
 have hD:s1.heap.objs.size<=g.objs.size:=cW (uV (fo _ 2) (aM (r _ _ Z.ap.TIz Z.ap.TITO Z.ap.TIi1 Z.ap.TIi2 a2)));have ht:∀t∈f,s1.heap.objs.size<=t:=fun t q=>by
  obtain⟨j,i⟩:=kK q;exact(B j t i).1
 refine⟨.ref g.objs.size,upd (jW H1 f xs ys) g.objs.size (.tup (f.map .ref)),n.many (N:=g.objs.size::f) (t':=s1.toks) T (fun a k=>?_) (fun b hb=>?_) fun a k o e=>?_,rfl,q _ f (n.hok.fresh hD) (fun t z=>n.hok.fresh (ht t z)) (h_.mpr ⟨nD,d.uni⟩) (by rw[d.len];simp[lx,ly])⟩
 ·rcases cn.mp k with z|z
  ·rw[z];exact hD
  ·exact ht a z
 ·rw[ai fun z=>hb (by rw[z];exact dQ)];exact kq fun z=>hb (dY _ z)
 ·rcases cn.mp k with z|z
  ·subst z;rw[aa]at e;cases e;exact⟨by rw[ah,d.len];simp;omega,f.map .ref,Er f,⟨_,dh _ rfl,rfl,_,rfl⟩⟩
  ·have ne:a≠g.objs.size:=fun w=>nD (w▸z);rw[ai ne]at e;obtain⟨j,i⟩:=kK z;obtain⟨_,x,y,Y,al,qT⟩:=d.at' j a i;obtain⟨vx,ex,an⟩:=K4 rx (j:=j) (u:=x) (by simpa using Y);obtain⟨vy,ey,as⟩:=K4 ry (j:=j) (u:=y) (by simpa using al);rw[Ak d.uni i ex ey]at e;cases e;exact⟨by show 2<=aj;decide,[x,y],.cons an (.cons as .nil),⟨_,a_ _ qT,rfl,_,rfl⟩⟩
end
end L2
end

section
set_option Elab.async false
set_option linter.all false
set_option maxRecDepth 100000
namespace L2
open PySem PySem.Spec PyProof.Rows
def HY(K:Za):R2:=fun x y H Q=>∃a b xs ys,x=.ref a/\y=.ref b/\bT K H a xs/\bT K H b ys/\ys≠[]/\xs.length+ys.length<=aj /\
 (xs=[]->Q (.ref b) H)/\(xs≠[]->∀p,H p=none->Q (.ref p) (upd H p (.tup (xs++ys))))
section
variable{X:Cx}
theorem Kz:nL X (j3 .Add) (HY X.K):=by
 intro E s σ H x y v u Q I o p h;obtain⟨a,b,q,G,rfl,rfl,r,t,J,L,M,N⟩:=h;by_cases j:q=[]
 ·cases o;cases p;obtain⟨k,O,T,_⟩:=I.tuple r;obtain⟨e,r2,U,_⟩:=I.tuple t;have Y:k=[]:=O.nil_iff.mpr j;subst Y;obtain⟨⟨al,dd,w,sl⟩,A,B,n,C⟩:=id T;obtain⟨⟨D,l,data2,m⟩,f,g,n2,i⟩:=id U;simp only at B C g i;subst B C g i;exact concat_meets ⟨_,A,rfl⟩ ⟨_,f,rfl⟩ noFill_tuple_add seq_tuple_add PySem.F.slot_tuple_add PySem.F.entry_tuple_add (PySem.F.args_tuple_add_2 _ _)
   (tuple_addW0 a b _ e.toArray n n2 dd l sl m (by simp)) ⟨A,f,⟨.ref b,H,I,rfl,M j⟩⟩
 ·exact Ky E s σ H _ _ v u Q I o p ⟨a,b,q,G,rfl,rfl,r,t,j,L,fun z=>absurd z J,fun _=>N j⟩
end
def wk(h:Heap)(T:Addr)(a b c:Value):Prop:=h.get? T=some { cls:=.type "tuple",data:=.seq #[a,b,c] }
structure MV(z TI TO i j k l m n:Addr):Prop where
 nd:[z,TI,TO,i,j,k].Nodup
 l:l∉[z,TI,TO,i,j,k]
 m:m∉[z,TI,TO,i,j,k]
 n:n∉[z,TI,TO,i,j,k]
section
variable{prog:bZ}{w:World}{A:Around}{E:Zc}{s:Shared}{z TI TO i j k l m n:Addr}{p:Nat}{xs ys zs:Array Value}{x y v a b c:Value}
theorem y9{T:Addr}{q:Nat}{u:Value}{Q:Unit->Shared->Prop}(f:wk s.heap T a b c)
  (h:∀e,e.get? T=some { cls:=.type "tuple",data:=.seq ((#[a,b,c]:Array Value).setIfInBounds q u) }->iT T s.heap e->Q () { s with heap:=e }) :
  wpAny (model prog w) A (uN T (·.setIfInBounds q u)) Q E s:=by
 refine uM f rfl (h _ ?_ (rB ..));rw[mm _ f rfl];simp[iO]
theorem JG{Q:Zc}(D:MV z TI TO i j k l m n)(J:IsZip s.heap z TI TO .none)(hI:wk s.heap TI (.ref i) (.ref j) (.ref k))(hO:wk s.heap TO a b c)
  (h1:s.heap.IsListIter i l p) (h2:s.heap.IsListIter j m p) (h3:s.heap.IsListIter k n p) (g1:s.heap.IsList l xs) (g2:s.heap.IsList m ys) (g3:s.heap.IsList n zs) (hx:xs[p]?=some x) (hy:ys[p]?=some y) (hv:zs[p]?=some v)
  (hQ:∀u,IsZip u z TI TO (rawInt s.heap.objs.size)->wk u TO x y v->u.IsListIter i l (p+1)->u.IsListIter j m (p+1)->u.IsListIter k n (p+1)->wk u s.heap.objs.size x y v ->
   (∀c o,c∉[z,TI,TO,i,j,k]∨c=TI->s.heap.get? c=some o->u.get? c=some o)->Q (.ref s.heap.objs.size) { s with heap:=u }) :
  wpAny (model prog w) A (cc.«zip.__next__» ⟨[.ref z],[]⟩) (fun al s'=>∃v,al=.done (.ret v)/\Q v s') E s:=by
 obtain⟨nd,dl,dm,dn⟩:=D;simp only[h_,cn,iM,or_false,not_or,ml,and_true,not_false_eq_true]at nd dl dm dn;obtain⟨⟨zI,zO,zi,zj,zk⟩,⟨IO,Ii,Ij,Ik⟩,⟨T,U,Ok⟩,⟨ij,ik⟩,jk⟩:=nd;obtain⟨lz,lI,lO,li,lj,lk⟩:=dl;obtain⟨mz,mI,mO,mi,mj,mk⟩:=dm;obtain⟨nz,nI,nO,ni,nj,nk⟩:=dn;show wpAny _ _ (field (.ref z) 2 >>= _) _ _ _;refine am (gR J rfl (x:=.bool false) rfl ?_);show wpAny _ _ (field (.ref z) 3 >>= _) _ _ _;refine am (gR J rfl (x:=.ref TI) rfl ?_);refine am (ow hI rfl ?_);show wpAny _ _ (lZ (.ref z) >>= _) _ _ _;refine am ?_;unfold lZ;refine am (gR J rfl (x:=.none) rfl (aR ?_));simp only[if_true];refine am (sY ?_);refine am (gR J rfl (x:=.ref TO) rfl ?_);refine am (rm J (by simp) fun e1 z1 r=>?_)
 replace z1:IsZip e1 z TI TO .ellipsis:=z1
 refine am ?_;simp only[List.zipIdx_cons,List.zipIdx_nil,oM,yO];refine am (am (yJ ?_));show wpAny _ _ (lY (.ref i) >>= _) _ _ _;refine am (rk (h1.extBut r.extBut (b_ zi)) (g1.extBut r.extBut lz) hx fun e2 w1 B=>aR ?_);have o2:wk e2 TO a b c:=B.extBut _ _ T (r.extBut _ _ (b_ zO) hO);refine am (ow o2 rfl ?_);refine am (y9 o2 fun e3 o3 C=>?_)
 replace o3:wk e3 TO x b c:=o3
 refine am (wpAny_letGo (aR ?_));refine am (am (yJ ?_));show wpAny _ _ (lY (.ref j) >>= _) _ _ _;refine am (rk (((h2.extBut r.extBut (b_ zj)).extBut B.extBut (b_ ij)).extBut C.extBut (b_ U)) (((g2.extBut r.extBut mz).extBut B.extBut mi).extBut C.extBut mO) hy fun e4 w2 G=>aR ?_);have o4:wk e4 TO x b c:=G.extBut _ _ U o3;refine am (ow o4 rfl ?_);refine am (y9 o4 fun e5 o5 H=>?_)
 replace o5:wk e5 TO x y c:=o5
 refine am (wpAny_letGo (aR ?_));refine am (am (yJ ?_));show wpAny _ _ (lY (.ref k) >>= _) _ _ _;refine am (rk (((((h3.extBut r.extBut (b_ zk)).extBut B.extBut (b_ ik)).extBut C.extBut (b_ Ok)).extBut G.extBut (b_ jk)).extBut H.extBut (b_ Ok)) (((((g3.extBut r.extBut nz).extBut B.extBut ni).extBut C.extBut nO).extBut G.extBut nj).extBut H.extBut nO) hv fun e6 w3 L=>aR ?_);have o6:wk e6 TO x y c:=L.extBut _ _ Ok o5;refine am (ow o6 rfl ?_);refine am (y9 o6 fun g Y M=>?_)
 replace Y:wk g TO x y v:=Y
 refine am (wpAny_letGo (aR (aR ?_)));refine am (ow Y rfl ?_);refine am (wpAny_newTuple ?_);have sz:g.objs.size=s.heap.objs.size:=by rw[M.1,L.1,H.1,G.1,C.1,B.1,r.1]
 have up:∀c o,c≠TO->c≠i->c≠j->c≠k->e1.get? c=some o->g.get? c=some o:=fun c o I c2 c3 c4 e=>M.extBut _ _ I (L.extBut _ _ c4 (H.extBut _ _ I (G.extBut _ _ c3 (C.extBut _ _ I (B.extBut _ _ c2 e)))));have z7:IsZip g z TI TO .ellipsis:=up _ _ zO zi zj zk z1;have v1:g.IsListIter i l (p+1):=((((w1.extBut C.extBut (b_ T)).extBut G.extBut ij).extBut H.extBut (b_ T)).extBut L.extBut ik).extBut M.extBut (b_ T);have v2:g.IsListIter j m (p+1):=((w2.extBut H.extBut (b_ U)).extBut L.extBut jk).extBut M.extBut (b_ U);have v3:g.IsListIter k n (p+1):=w3.extBut M.extBut (b_ Ok);have ne:∀{c o},g.get? c=some o->g.objs.size≠c:=fun e=>eX (aM e);show wpAny _ _ (cc.SmallTypes.ownedTupleHandOut (.ref z) (.ref g.objs.size) >>= _) _ _ _;refine am ?_;unfold cc.SmallTypes.ownedTupleHandOut;have z8:IsZip (g.push { cls:=.type "tuple",data:=.seq #[x,y,v] }) z TI TO .ellipsis:=a_ _ z7;refine am (rm z8 (by simp) fun e9 z9 s9=>?_)
 replace z9:IsZip e9 z TI TO (rawInt g.objs.size):=z9
 refine rm z9 (by simp) fun f t N=>?_
 replace t:IsZip f z TI TO (rawInt g.objs.size):=t
 have q:∀c o,c≠z->g.get? c=some o->f.get? c=some o:=fun c o I e=>N.extBut _ _ I (s9.extBut _ _ I (a_ _ e));have O:wk f g.objs.size x y v:=N.extBut _ _ (ne z7) (s9.extBut _ _ (ne z7) (dh _ rfl));rw[sz]at t O;refine aR ⟨_,rfl,?_⟩;show Q (.ref g.objs.size) _;rw[sz];refine hQ f t (q _ _ (b_ zO) Y) (v1.at fun o e=>q _ o (b_ zi) e) (v2.at fun o e=>q _ o (b_ zj) e) (v3.at fun o e=>q _ o (b_ zk) e) O fun c o h e=>?_;have h:c≠z/\c≠TO/\c≠i/\c≠j/\c≠k:=by
  rcases h with h|rfl
  ·simp only[cn,iM,or_false,not_or]at h;exact⟨h.1,h.2.2.1,h.2.2.2.1,h.2.2.2.2.1,h.2.2.2.2.2⟩
  ·exact⟨b_ zI,IO,Ii,Ij,Ik⟩
 exact q c o h.1 (up c o h.2.1 h.2.2.1 h.2.2.2.1 h.2.2.2.2 (r.extBut _ _ h.1 e))
theorem Lw{Q:Fin->Shared->Prop}(L:A.handled=none)(D:MV z TI TO i j k l m n)(f:IsZip s.heap z TI TO .none)(M:wk s.heap TI (.ref i) (.ref j) (.ref k))
  (N:s.heap.IsListIter i l p) (O:s.heap.IsList l xs) (T:xs[p]?=none)
  (U:∀g e,(∀c o,c∉[z,TI,TO,i,j,k]∨c=TI->s.heap.get? c=some o->g.get? c=some o)->(∃o,g.get? e=some o/\o.cls=.type "StopIteration")->E (.ref e) { s with heap:=g }) :
  wpAny (model prog w) A (cc.«zip.__next__» ⟨[.ref z],[]⟩) Q E s:=by
 obtain⟨B,dl,_,_⟩:=D;simp only[h_,cn,iM,or_false,not_or,ml,and_true,not_false_eq_true]at B dl;obtain⟨⟨Y,zO,C,zj,zk⟩,⟨IO,Ii,Ij,Ik⟩,_⟩:=B;show wpAny _ _ (field (.ref z) 2 >>= _) _ _ _;refine am (gR f rfl (x:=.bool false) rfl ?_);show wpAny _ _ (field (.ref z) 3 >>= _) _ _ _;refine am (gR f rfl (x:=.ref TI) rfl ?_);refine am (ow M rfl ?_);show wpAny _ _ (lZ (.ref z) >>= _) _ _ _;refine am ?_;unfold lZ;refine am (gR f rfl (x:=.none) rfl (aR ?_));simp only[if_true];refine am (sY ?_);refine am (gR f rfl (x:=.ref TO) rfl ?_);refine am (rm f (by simp) fun e1 h r=>?_)
 replace h:IsZip e1 z TI TO .ellipsis:=h
 refine am ?_;simp only[List.zipIdx_cons,List.zipIdx_nil,oM,yO];refine am (am (yJ ?_));show wpAny _ _ (lY (.ref i) >>= _) _ _ _;refine am (wpAny_nextOf_list_end L (N.extBut r.extBut (b_ C)) (O.extBut r.extBut dl.1) T fun e2 e G he=>?_);obtain⟨oe,t,H⟩:=he;have I:IsZip e2 z TI TO .ellipsis:=G _ _ C h;have ez:e≠z:=fun q=>by subst q;rw[I]at t;cases t;simp at H
 refine rm I (by simp) fun e3 _ J=>U e3 e (fun c o q u=>?_) ⟨oe,J.extBut _ _ ez t,H⟩;have q:c≠z/\c≠i:=by
  rcases q with q|rfl
  ·simp only[cn,iM,or_false,not_or]at q;exact⟨q.1,q.2.2.2.1⟩
  ·exact⟨b_ Y,Ii⟩
 exact J.extBut _ _ q.1 (G _ _ q.2 (r.extBut _ _ q.1 u))
theorem JF{Q:Option Value->Shared->Prop}(D:MV z TI TO i j k l m n)(f:IsZip s.heap z TI TO .none)(h:wk s.heap TI (.ref i) (.ref j) (.ref k))(q:wk s.heap TO a b c)
  (r:s.heap.IsListIter i l p) (t:s.heap.IsListIter j m p) (u:s.heap.IsListIter k n p) (B:s.heap.IsList l xs) (C:s.heap.IsList m ys) (G:s.heap.IsList n zs) (H:xs[p]?=some x) (I:ys[p]?=some y) (J:zs[p]?=some v)
  (L:∀e,IsZip e z TI TO (rawInt s.heap.objs.size)->wk e TO x y v->e.IsListIter i l (p+1)->e.IsListIter j m (p+1)->e.IsListIter k n (p+1)->wk e s.heap.objs.size x y v ->
   (∀c o,c∉[z,TI,TO,i,j,k]∨c=TI->s.heap.get? c=some o->e.get? c=some o)->Q (some (.ref s.heap.objs.size)) { s with heap:=e }):wpAny (model prog w) A (pyNext (.ref z)) Q E s:=by
 have g:s.TypeIs (.ref z) "zip":=⟨_,f,rfl⟩;unfold pyNext;exact am (rq (rp (name:=oJ "__next__") g lX
  (yq lX g yN (JG D f h q r t u B C G H I J fun e a1 a2 a3 M N O T=>aR (L e a1 a2 a3 M N O T)) (yM _))))
theorem JE{Q:Option Value->Shared->Prop}(q:A.handled=none)(D:MV z TI TO i j k l m n)(g:IsZip s.heap z TI TO .none)(r:wk s.heap TI (.ref i) (.ref j) (.ref k))
  (t:s.heap.IsListIter i l p) (u:s.heap.IsList l xs) (B:xs[p]?=none)
  (C:∀f,(∀c o,c∉[z,TI,TO,i,j,k]∨c=TI->s.heap.get? c=some o->f.get? c=some o)->Q none { s with heap:=f }):wpAny (model prog w) A (pyNext (.ref z)) Q E s:=by
 have h:s.TypeIs (.ref z) "zip":=⟨_,g,rfl⟩;unfold pyNext;refine am (rq (rp (name:=oJ "__next__") h lX
  (yq lX h yN (Lw q D g r t u B fun f e G H=>?_) (yM _))))
 obtain⟨o,I,J⟩:=H;refine am (Be (T:="StopIteration") (b:=true) ⟨o,I,J⟩ isSubtype_stop ?_);exact aR (C _ G)
end
theorem JD(a b c:Value):checkTypeCall "zip" ⟨[a,b,c],[]⟩=pure ():=by kernel_rfl
theorem Lv(a b c:Value):checkBuiltinCall "zip.__new__" ⟨[.type "zip",a,b,c],[]⟩=pure ():=by kernel_rfl
theorem JH(a b c d:Value):argsOk "object.__init__" ⟨[a,b,c,d],[]⟩:=by
 unfold argsOk;rw[signature?_of (id:="object.__init__") (n:=['_','_','t','i','n','i','_','_']) (o:=['t','c','e','j','b','o']) (by kernel_rfl) PySem.F.owner_object];kernel_rfl
def b0(h:Heap)(l:Addr):Heap:=h.push { cls:=.type "list_iterator",data:=.fields #[.ref l,.int 0 0] }
def Fx(h:Heap)(l m n:Addr):Heap:=(((b0 (b0 (b0 h l) m) n).push { cls:=.type "tuple",data:=.seq #[.ref h.objs.size,.ref (b0 h l).objs.size,.ref (b0 (b0 h l) m).objs.size] }).push { cls:=.type "tuple",data:=.seq #[.none,.none,.none] })
theorem Hm(l m n:Addr)(e f i:Array Value):
  Meets (cc.«zip.__new__» ⟨[.type "zip",.ref l,.ref m,.ref n],[]⟩) (fun _ R s=>s.heap.IsList l e/\s.heap.IsList m f/\s.heap.IsList n i /\
   R (.ok (.ret (.ref (Fx s.heap l m n).objs.size))) { s with heap:=(Fx s.heap l m n).push { cls:=.type "zip",data:=.fields #[.none,.bool false,.bool false,.ref (b0 (b0 (b0 s.heap l) m) n).objs.size,.ref ((b0 (b0 (b0 s.heap l) m) n).push { cls:=.type "tuple",data:=.seq #[.ref s.heap.objs.size,.ref (b0 s.heap l).objs.size,.ref (b0 (b0 s.heap l) m).objs.size] }).objs.size] } }) :=
 .of_wp fun j w A R s h=>by
  obtain⟨a,g,d,tk,os⟩:=s;obtain⟨o,p,q,h⟩:=h;have k:=sub_zip;have r:Heap.IsList (yL ⟨a,g,d,tk,os⟩) l e:=o;have t:Heap.IsList (yL ⟨a.push { cls:=.type "list_iterator",data:=.fields #[.ref l,.int 0 0] },g,d,tk,os⟩) m f:=Heap.IsList.push p _;have u:Heap.IsList (yL ⟨(a.push { cls:=.type "list_iterator",data:=.fields #[.ref l,.int 0 0] }).push { cls:=.type "list_iterator",data:=.fields #[.ref m,.int 0 0] },g,d,tk,os⟩) n i:=Heap.IsList.push (Heap.IsList.push q _) _
  wp_walk using uC r,uC t,uC u
  exact⟨_,rfl,h⟩
section
variable{prog:bZ}{w:World}{A:Around}{E:Zc}{s:Shared}
theorem GO{l m n:Addr}{q r t:Array Value}{Q:Zc}(B:s.heap.IsList l q)(C:s.heap.IsList m r)(D:s.heap.IsList n t)
  (h:∀g,IsZip g (s.heap.objs.size+5) (s.heap.objs.size+3) (s.heap.objs.size+4) .none->wk g (s.heap.objs.size+3) (.ref s.heap.objs.size) (.ref (s.heap.objs.size+1)) (.ref (s.heap.objs.size+2)) ->
   wk g (s.heap.objs.size+4) .none .none .none->g.IsListIter s.heap.objs.size l 0->g.IsListIter (s.heap.objs.size+1) m 0->g.IsListIter (s.heap.objs.size+2) n 0 ->
   (∀c o,s.heap.get? c=some o->g.get? c=some o)->Q (.ref (s.heap.objs.size+5)) { s with heap:=g }) :
  wpAny (model prog w) A (call (.type "zip") [.ref l,.ref m,.ref n]) Q E s:=by
 refine callType_new PySem.F.called_zip (by decide) (JD _ _ _) (Lv _ _ _) (fun i=>JH i _ _ _) PySem.F.entry_zip_new (Hm l m n q r t) ⟨B,C,D,?_⟩;generalize s.heap=a at h ⊢;have a1:(b0 a l).objs.size=a.objs.size+1:=oq ..;have a2:(b0 (b0 a l) m).objs.size=a.objs.size+2:=(oq ..).trans (by rw[a1]);have a3:(b0 (b0 (b0 a l) m) n).objs.size=a.objs.size+3:=(oq ..).trans (by rw[a2]);have j:((b0 (b0 (b0 a l) m) n).push { cls:=.type "tuple",data:=.seq #[.ref a.objs.size,.ref (b0 a l).objs.size,.ref (b0 (b0 a l) m).objs.size] }).objs.size=a.objs.size+4:=(oq ..).trans (by rw[a3]);have u:(Fx a l m n).objs.size=a.objs.size+5:=(oq ..).trans (by rw[j]);have G:∀{o:Obj},(b0 a l).get? a.objs.size=some o->∀f:Obj,((Fx a l m n).push f).get? a.objs.size=some o:=fun e f=>a_ _ (a_ _ (a_ _ (a_ _ (a_ _ e))));have H:∀{o:Obj},(b0 (b0 a l) m).get? (b0 a l).objs.size=some o->∀f:Obj,((Fx a l m n).push f).get? (b0 a l).objs.size=some o:=fun e f=>a_ _ (a_ _ (a_ _ (a_ _ e)));have I:∀{o:Obj},(b0 (b0 (b0 a l) m) n).get? (b0 (b0 a l) m).objs.size=some o->∀f:Obj,((Fx a l m n).push f).get? (b0 (b0 a l) m).objs.size=some o:=fun e f=>a_ _ (a_ _ (a_ _ e));have J:=fun f=>G (dh (h:=a) (o:={ cls:=.type "list_iterator",data:=.fields #[.ref l,.int 0 0] }) rfl) f;have L:=fun f=>H (dh (h:=b0 a l) (o:={ cls:=.type "list_iterator",data:=.fields #[.ref m,.int 0 0] }) rfl) f;have M:=fun f=>I (dh (h:=b0 (b0 a l) m) (o:={ cls:=.type "list_iterator",data:=.fields #[.ref n,.int 0 0] }) rfl) f;have N:∀f:Obj,((Fx a l m n).push f).get? (b0 (b0 (b0 a l) m) n).objs.size=some _:=fun f=>a_ _ (a_ _ (dh _ rfl));have O:∀f:Obj,((Fx a l m n).push f).get? ((b0 (b0 (b0 a l) m) n).push { cls:=.type "tuple",data:=.seq #[.ref a.objs.size,.ref (b0 a l).objs.size,.ref (b0 (b0 a l) m).objs.size] }).objs.size=some _:=fun f=>a_ _ (dh _ rfl);have k:((Fx a l m n).push { cls:=.type "zip",data:=.fields #[.none,.bool false,.bool false,.ref (b0 (b0 (b0 a l) m) n).objs.size,.ref ((b0 (b0 (b0 a l) m) n).push { cls:=.type "tuple",data:=.seq #[.ref a.objs.size,.ref (b0 a l).objs.size,.ref (b0 (b0 a l) m).objs.size] }).objs.size] }).get? (Fx a l m n).objs.size=some _:=dh _ rfl;show _/\_;have T:∀(f:Obj) c o,a.get? c=some o->((Fx a l m n).push f).get? c=some o:=fun f c o e=>a_ _ (a_ _ (a_ _ (a_ _ (a_ _ (a_ _ e)))));refine⟨⟨_,k,rfl⟩,?_⟩;have p:=fun f=>h ((Fx a l m n).push f);have U:=J { cls:=.type "zip",data:=.fields #[.none,.bool false,.bool false,.ref (b0 (b0 (b0 a l) m) n).objs.size,.ref ((b0 (b0 (b0 a l) m) n).push { cls:=.type "tuple",data:=.seq #[.ref a.objs.size,.ref (b0 a l).objs.size,.ref (b0 (b0 a l) m).objs.size] }).objs.size] };have v:=L { cls:=.type "zip",data:=.fields #[.none,.bool false,.bool false,.ref (b0 (b0 (b0 a l) m) n).objs.size,.ref ((b0 (b0 (b0 a l) m) n).push { cls:=.type "tuple",data:=.seq #[.ref a.objs.size,.ref (b0 a l).objs.size,.ref (b0 (b0 a l) m).objs.size] }).objs.size] };have x:=M { cls:=.type "zip",data:=.fields #[.none,.bool false,.bool false,.ref (b0 (b0 (b0 a l) m) n).objs.size,.ref ((b0 (b0 (b0 a l) m) n).push { cls:=.type "tuple",data:=.seq #[.ref a.objs.size,.ref (b0 a l).objs.size,.ref (b0 (b0 a l) m).objs.size] }).objs.size] };have y:=N { cls:=.type "zip",data:=.fields #[.none,.bool false,.bool false,.ref (b0 (b0 (b0 a l) m) n).objs.size,.ref ((b0 (b0 (b0 a l) m) n).push { cls:=.type "tuple",data:=.seq #[.ref a.objs.size,.ref (b0 a l).objs.size,.ref (b0 (b0 a l) m).objs.size] }).objs.size] };have z:=O { cls:=.type "zip",data:=.fields #[.none,.bool false,.bool false,.ref (b0 (b0 (b0 a l) m) n).objs.size,.ref ((b0 (b0 (b0 a l) m) n).push { cls:=.type "tuple",data:=.seq #[.ref a.objs.size,.ref (b0 a l).objs.size,.ref (b0 (b0 a l) m).objs.size] }).objs.size] };have Y:=T { cls:=.type "zip",data:=.fields #[.none,.bool false,.bool false,.ref (b0 (b0 (b0 a l) m) n).objs.size,.ref ((b0 (b0 (b0 a l) m) n).push { cls:=.type "tuple",data:=.seq #[.ref a.objs.size,.ref (b0 a l).objs.size,.ref (b0 (b0 a l) m).objs.size] }).objs.size] };have ff:=p { cls:=.type "zip",data:=.fields #[.none,.bool false,.bool false,.ref (b0 (b0 (b0 a l) m) n).objs.size,.ref ((b0 (b0 (b0 a l) m) n).push { cls:=.type "tuple",data:=.seq #[.ref a.objs.size,.ref (b0 a l).objs.size,.ref (b0 (b0 a l) m).objs.size] }).objs.size] };generalize(Fx a l m n).push { cls:=.type "zip",data:=.fields #[.none,.bool false,.bool false,.ref (b0 (b0 (b0 a l) m) n).objs.size,.ref ((b0 (b0 (b0 a l) m) n).push { cls:=.type "tuple",data:=.seq #[.ref a.objs.size,.ref (b0 a l).objs.size,.ref (b0 (b0 a l) m).objs.size] }).objs.size] }=hf at *;rw[u,j,a3]at k;rw[u];rw[j]at z;rw[a3,a1,a2]at y;rw[a2]at x;rw[a1]at v;exact ff k y z ⟨_,U,rfl,rfl⟩ ⟨_,v,rfl,rfl⟩ ⟨_,x,rfl,rfl⟩ Y
end
def Ju(K:Za)(a b c:Addr):It :=
  ⟨fun i H=>∃xs ys zs x y z,ay K H a xs/\ay K H b ys/\ay K H c zs/\xs[i]?=some x/\ys[i]?=some y/\zs[i]?=some z,
   fun i H x H'=>∃p u v w,x=.ref p/\H p=none/\(∀xs,ay K H a xs->xs[i]?=some u)/\(∀ys,ay K H b ys->ys[i]?=some v)/\(∀zs,ay K H c zs->zs[i]?=some w)/\H'=upd H p (.tup [u,v,w]),
   fun i H=>∃xs,ay K H a xs/\xs.length<=i⟩
theorem Fy{P:bZ}{w:World}{K:Za}{es:List Expr}{kx:Nat}{J8:Pos}(a b c z TI TO B C G:Addr)(D:MV z TI TO B C G a b c):
  t_ P w K (.Tuple es kx J8) (Ju K a b c) [z,TI,TO,B,C,G] z (fun i h=>IsZip h z TI TO .none/\wk h TI (.ref B) (.ref C) (.ref G)/\(∃a b c,wk h TO a b c)/\h.IsListIter B a i/\h.IsListIter C b i/\h.IsListIter G c i) where
 mem:=by simp
 obj:=fun i h st c f=>by
  obtain⟨A,j,⟨u,v,w,p⟩,J,L,M⟩:=st;simp only[cn,iM,or_false]at f;rcases f with rfl|rfl|rfl|rfl|rfl|rfl
  ·exact⟨_,A,fun v z=>by cases z⟩
  ·exact⟨_,j,fun v z=>by cases z⟩
  ·exact⟨_,p,fun v z=>by cases z⟩
  ·obtain⟨o,e,c,d⟩:=J;exact⟨o,e,fun v z=>by rw[d]at z;cases z⟩
  ·obtain⟨o,e,c,d⟩:=L;exact⟨o,e,fun v z=>by rw[d]at z;cases z⟩
  ·obtain⟨o,e,c,d⟩:=M;exact⟨o,e,fun v z=>by rw[d]at z;cases z⟩
 keep:=fun i h Q st k=>by
  obtain⟨A,j,⟨u,v,w,p⟩,J,L,M⟩:=st;exact⟨k z (by simp) _ A,k TI (by simp) _ j,⟨u,v,w,k TO (by simp) _ p⟩,J.at fun o e=>k B (by simp) o e,L.at fun o e=>k C (by simp) o e,M.at fun o e=>k G (by simp) o e⟩
 item:=by
  intro X hP hw hK f i J5 s σ H E I O st hg;subst hP hw hK;obtain⟨A,j,⟨u0,v0,w0,p⟩,J,L,M⟩:=st;obtain⟨xs,ys,zs,x,y,zz,qx,qy,qz,hx,hy,T⟩:=hg;obtain⟨al,rx,px,_⟩:=I.list qx;obtain⟨aC,ry,py,_⟩:=I.list qy;obtain⟨a0,rz,pz,_⟩:=I.list qz;obtain⟨u,hu,ru⟩:=rx.get hx;obtain⟨v,hv,rv⟩:=ry.get hy;obtain⟨t,ht,rt⟩:=rz.get T;refine JF D A j p J L M px.isList py.isList pz.isList (x:=u) (y:=v) (v:=t) (by simpa using hu) (by simpa using hv) (by simpa using ht) fun Q a1 a2 a3 a4 a5 a6 hk=>?_;refine⟨_,rfl,wpAny_letOwnedTupleGo_zip (s:={ s with heap:=Q }) a1 fun g an l=>?_⟩;have l:iT z Q g:=l;have old:∀c∈[z,TI,TO,B,C,G],s.heap.objs.size≠c:=fun c f=>by
   simp only[cn,iM,or_false]at f;rcases f with rfl|rfl|rfl|rfl|rfl|rfl
   ·exact eX (aM A)
   ·exact eX (aM j)
   ·exact eX (aM p)
   ·obtain⟨o,N,_⟩:=J;exact eX (aM N)
   ·obtain⟨o,N,_⟩:=L;exact eX (aM N)
   ·obtain⟨o,N,_⟩:=M;exact eX (aM N)
  have U:wk g s.heap.objs.size u v t:=l.extBut _ _ (old z (by simp)) a6;have Y:∀c∈[TI,TO,B,C,G],c≠z:=fun c f e=>by subst e;exact(h_.1 D.nd).1 f
  have I2:Inv X J5 σ (upd H s.heap.objs.size (.tup [x,y,zz])) { s with heap:=g,toks:=s.toks }:=by
   refine I.turnedNew (ch:=[z,TI,TO,B,C,G]) O (fun c o f q=>?_) ⟨_,U⟩ (fun _ z=>nomatch z) ⟨by show 3<=aj;decide,[u,v,t],.cons ru (.cons rv (.cons rt .nil)),⟨_,U,rfl,_,rfl⟩⟩;exact l.extBut _ _ (fun q=>f (by simp[q])) (hk c o (.inl f) q)
  refine⟨.ref s.heap.objs.size,_,I2,rfl,⟨_,x,y,zz,rfl,I.fresh,fun zs A=>by rw[I.list_inj A qx];exact hx,fun zs A=>by rw[I.list_inj A qy];exact hy,fun zs A=>by rw[I.list_inj A qz];exact T,rfl⟩,⟨an,l.extBut _ _ (Y TI (by simp)) (hk _ _ (.inr rfl) j),⟨_,_,_,l.extBut _ _ (Y TO (by simp)) a2⟩,a3.at fun o e=>l.extBut _ _ (Y B (by simp)) e,a4.at fun o e=>l.extBut _ _ (Y C (by simp)) e,a5.at fun o e=>l.extBut _ _ (Y G (by simp)) e⟩,fun c f=>?_⟩;rw[ai (b_ (old c f))];exact(O c f).1
 done:=by
  intro X hP hw hK f i J5 s σ H E I O st hg;subst hP hw hK;obtain⟨A,j,⟨u0,v0,w0,p⟩,J,L,M⟩:=st;obtain⟨xs,qx,as⟩:=hg;obtain⟨al,rx,px,_⟩:=I.list qx;have lx:=rx.length;refine JE (I.ok.hd f) D A j J px.isList (by simp;omega) fun Q hk=>⟨rfl,?_⟩;have tr:∀c q,H c=some q->c∉[z,TI,TO,B,C,G]:=fun c q e m=>by rw[(O c m).1]at e;cases e
  have kk:∀c o,c∉[z,TI,TO,B,C,G]->s.heap.get? c=some o->Q.get? c=some o:=fun c o f q=>hk c o (.inl f) q;refine I.step (g':=s.gens) (d':=s.drawn) (t':=s.toks) (ch:=[z,TI,TO,B,C,G]) (fun c f=>?_) (fun c o _ _ f e _=>kk c o f e) (fun c o _ _ f e _=>⟨o.slots,kk c o f e⟩) (fun _ _ _ _ n=>n) (fun c o f e=>⟨o,kk c o f e⟩) (fun _ _ e=>e) (fun _ _ _ e=>e) (fun c ps e=>⟨#[],by rw[e];simp⟩) (fun m hm=>?_) (fun c q e=>?_) I.bare
  ·obtain⟨f0,f1,f2,f3,f4,f5⟩:=O c f;exact⟨f3,f1,f4,f5⟩
  ·obtain⟨q,ap,ep,N,r⟩:=hm;exact⟨q,ap,ep,kk _ q (fun z=>(O _ z).2.1 rfl) N,r⟩
  ·refine(I.hok c q e).stay (fun d v hd q'=>kk d v ?_ q') (fun _ q=>q) fun _ _ q=>q;rcases hd with z|z
   ·subst z;exact tr _ _ e
   ·exact tr _ _ z
 self:=fun _ _ _ _ _ st h=>uU st.1 h
theorem nd6(n:Nat):[n+5,n+3,n+4,n,n+1,n+2].Nodup:=by
 simp only[h_,cn,iM,or_false,not_or,ml,and_true,not_false_eq_true];omega
section
variable{X:Cx}{p pos:Pos}{es:List Expr}{kx:Nat}{J8:Pos}
def Li(K:Za)(ta:TA):TI:=fun σ H R=>ta σ H fun vs H1=>∃a b c,vs=[.ref a,.ref b,.ref c]/\(∃xs,ay K H1 a xs)/\(∃ys,ay K H1 b ys)/\(∃zs,ay K H1 c zs)/\R (Ju K a b c) H1
theorem Kq{a b c:Expr}{n:TA}(E:Gl X "zip")(G:X.mg "zip"=none)(J:PA X [a,b,c] n)(L:aK [a,b,c] X.env=[(false,eval a X.env),(false,eval b X.env),(false,eval c X.env)]:=by rfl)(i:aK [b,c] X.env=[(false,eval b X.env),(false,eval c X.env)]:=by rfl):
  PI X (.Tuple es kx J8) (.Call (.Name "zip" p) [a,b,c] [] pos) (Li X.K n):=by
 intro r s σ H R I h;refine Call_ (k9 I E G boot_zip (sU (cS (J pos r s σ H _ I h) fun M s1 m=>?_) (by rw[L,i]) (by rw[i];rfl)));obtain⟨vs,w,g,N,O⟩:=m;obtain⟨x,y,z,e,⟨xs,Q⟩,⟨ys,T⟩,⟨zs,U⟩,q⟩:=O;subst e;obtain⟨u,f,rfl,Y,r2⟩:∃u f,M=u::f/\RelV (.ref x) u/\bg [.ref y,.ref z] f:=by cases N with|cons a b=>exact⟨_,_,rfl,a,b⟩
 obtain⟨v,t,rfl,rv,rt⟩:=vals2 r2;cases Y;cases rv;cases rt;obtain⟨al,rx,A,zx⟩:=g.list Q;obtain⟨an,ry,B,zy⟩:=g.list T;obtain⟨ap,rz,C,zz⟩:=g.list U;have lt:∀{l:Addr}{o:Obj},s1.heap.get? l=some o->l∉[s1.heap.objs.size+5,s1.heap.objs.size+3,s1.heap.objs.size+4,s1.heap.objs.size,s1.heap.objs.size+1,s1.heap.objs.size+2]:=fun{l o} e j=>by
  simp only[cn,iM,or_false]at j;have h6:s1.heap.objs.size<=l:=by rcases j with rfl|rfl|rfl|rfl|rfl|rfl<;>omega
  exact Nat.not_lt.2 h6 (aM e)
 obtain⟨o1,n1,e1,_⟩:=id A;obtain⟨o2,n2,e2,_⟩:=id B;obtain⟨o3,n3,e3,_⟩:=id C;refine GO A.isList B.isList C.isList fun D a1 a2 a3 a4 a5 a6 hk=>?_;refine uU (s:={ s1 with heap:=D }) a1 ?_;have I2:Inv X r σ w { s1 with heap:=D }:=g.kept (t':=s1.toks) hk;refine⟨_,_,_,_,w,rfl,I2,Fy x y z _ _ _ _ _ _ ⟨?_,lt e1,lt e2,lt e3⟩,⟨a1,a2,⟨_,_,_,a3⟩,a4,a5,a6⟩,fun b j=>?_,q⟩
 ·exact nd6 _
 ·have k:s1.heap.objs.size<=b:=by
   simp only[cn,iM,or_false]at j;rcases j with rfl|rfl|rfl|rfl|rfl|rfl<;>omega
  exact g.fpOk k (g.hok.fresh k)
end
theorem IY{K:Za}{a b c:Addr}{xs ys zs:List V}{g:TG}{o:TS}{D:on}{σ:L2.St}{H:Hp}(A:xs.length=ys.length)(B:xs.length=zs.length)(Pv:Nat->L2.St->Hp->Prop)(C:Pv 0 σ H)(E:∀i σ H,i<=xs.length->Pv i σ H->ay K H a xs/\ay K H b ys/\ay K H c zs)
  (G:∀i x y z σ H p,xs[i]?=some x->ys[i]?=some y->zs[i]?=some z->Pv i σ H->H p=none->g (.ref p) σ (upd H p (.tup [x,y,z])) fun σ2 l=>o { D with nx:=Pv (i+1),ct:=Pv (i+1),bk:=D.nx } σ2 l) (I:∀σ H,Pv xs.length σ H->D.nx σ H) :
  ∃W:Nat->Nat->L2.St->Hp->Prop,(∃m,W 0 m σ H)/\∀i m σ H,W i m σ H ->
   ((Ju K a b c).stop i H/\D.nx σ H)∨((Ju K a b c).go i H/\∃N:L2.St->Hp->Prop,(∀σ' f,N σ' f->∃q,q<m/\W (i+1) q σ' f)/\∀x f,(Ju K a b c).yld i H x f->g x σ f fun σ2 l=>o { D with nx:=N,ct:=N,bk:=D.nx } σ2 l):=by
 refine⟨fun i m σ H=>m=xs.length-i/\i<=xs.length/\Pv i σ H,⟨xs.length,by simp,cL _,C⟩,?_⟩;rintro i m σ H ⟨rfl,J,p⟩;obtain⟨n,r,s⟩:=E i σ H J p;by_cases h:i<xs.length
 ·have j:i<ys.length:=by omega
  have k:i<zs.length:=by omega
  refine .inr ⟨⟨xs,ys,zs,xs[i],ys[i],zs[i],n,r,s,by simp[h],by simp[j],by simp[k]⟩,Pv (i+1),fun σ' f L=>⟨xs.length-(i+1),by omega,rfl,h,L⟩,fun x f y=>?_⟩;obtain⟨t,u,v,w,rfl,M,O,Q,T,rfl⟩:=y;exact G i u v w σ H t (O xs n) (Q ys r) (T zs s) p M
 ·have e:i=xs.length:=by omega
  subst e;exact .inl ⟨⟨xs,n,aB _⟩,I σ H p⟩
end L2
end
set_option Elab.async false
set_option linter.all false
set_option maxRecDepth 100000
set_option maxHeartbeats 4000000
namespace Mum
open PySem PySem.Spec PyProof.Rows L2
def zm(K:Za):TS :=
 aq (cG (be (az LI V0 (az Lc (tC (.int 10)) (tC (.int 18))))) (aQ V0) (bC))
 (aq (aI (az jo (az dS (az dS (az mD (az jo V0 (tC (.int 1000000007))) (tC (.int 69069))) (az mD V1 (tC (.int 40503)))) (tC (.int 977))) (tC (.int 2147483629))) U2)
 (aq (aI (az jo (az dS (az dS (az mD V2 V2) (az mD V1 (tC (.int 7919)))) (az jo V0 (tC (.int 65537)))) (tC (.int 2147483587))) U3)
 (aq (aI (az jo (az dS (az dS (az mD V3 V3) (az mD V2 (tC (.int 31)))) (tC (.int 5))) (tC (.int 2147483563))) U4)
 (aQ (az dS (az mD (az dS (az mD V2 (tC (.int 2147483659))) V3) (tC (.int 2147483693))) V4)))))
def AS:List Str:=["cell","at","one","two","three"]
def C0(K:Za):TS :=
 aq (aI (gk (fB K) (aw (wG (lN K) V0 (c_) (fz (tC (.int 12)))))) U1)
 (aq (fA (vS K (aw (wG (lN K) V0 (fz (tC (.int 12))) (fz (tC (.int 63)))))) (g6 K 2 (aY U2 (aY U3 (gM)))) (aI (az dS (az (cM K) V1 (az jo V2 (tC (.int 12)))) V3) (xa V1 (az jo V2 (tC (.int 12))) oA)))
 (aQ (cT (c9 V1 (tC (.int 0)) (tC (.int 0))))))
def D_:List Str:=["script","cells","k","cell"]
def C1(K:Za):TS :=
 aq (aI (tC (.int 0)) (xa V0 (tC (.int 2)) oA))
 (aQ V0)
def Ea:List Str:=["pen"]
def CZ(K:Za)(sp_law_spread:Sp):TS :=
 aq (cG (be (az HV (az (cM K) V0 (tC (.int 2))) V1)) (aq (aI (az (cM K) V0 (tC (.int 1))) U2)
 (aq (aI (tC (.int 0)) U3)
 (aq (cG (be (az HV V2 (gk (ie K) (aw (az (cM K) V0 (tC (.int 0))))))) (aI (az (cM K) (az (cM K) V0 (tC (.int 0))) V2) U3) (cG (be (az Ge (gk (ie K) (aw (az (cM K) V0 (tC (.int 0))))) (tC (.int 0)))) (aI (az jo (az (cM K) (az (cM K) V0 (tC (.int 0))) (az jo (az dS (az mD V2 (tC (.int 5))) (tC (.int 3))) (gk (ie K) (aw (az (cM K) V0 (tC (.int 0))))))) (az dS (az Lc (tC (.int 10)) (tC (.int 17))) V2)) U3) (bC)))
 (aq (aI (az dS V2 (tC (.int 1))) (xa V0 (tC (.int 1)) oA))
 (aI (aL sp_law_spread (aT V3 V2)) (xa V0 (tC (.int 2)) oA)))))) (bC))
 (aq (aI (az jo (az (cM K) V0 (tC (.int 2))) V1) U4)
 (aq (aI (az HX (az (cM K) V0 (tC (.int 2))) V1) (xa V0 (tC (.int 2)) oA))
 (aQ V4)))
def D0:List Str:=["pen","many","at","cell","found"]
def Bp(K:Za)(sp_law_take:Sp):TS :=
 aq (aI (tC (.str "abcdefghijklmnopqrstuvwxyz")) U2)
 (aq (aI (Dc K "str" (Ld K) (tC (.str "")) (ak (cA 1 [2,0] (tt (aw (tC (.int 7)))) U0 (gj) (az HW V1 (aL sp_law_take (aT V2 (tC (.int 26)))))) bp)) U3)
 (aq (aI (aL sp_law_take (aT V0 (tC (.int 3)))) U4)
 (aq (aI (aL sp_law_take (aT V0 (tC (.int 26)))) U5)
 (aq (aI (aL sp_law_take (aT V0 (tC (.int 8)))) U6)
 (aq (aI (cT (bp)) U7)
 (aq (fA (tt (aw V1)) U8 (aq (aI (az HW V2 (az jo (az dS V5 (az mD (tC (.int 3)) V8)) (tC (.int 26)))) U9)
 (aq (aI (wG Kn V3 (c_) (fz (az jo (az dS V6 (az mD V8 (az jo V4 (tC (.int 2))))) (tC (.int 8))))) Mh)
 (aq (aI (az (cM K) (cT (c9 (tC (.int 0)) (gk (ie K) (aw Jn)) (az HX (gk (ie K) (aw Jn)) (tC (.int 2))))) V4) M5)
 (dR (Dc K "list" gb V7 (aw (az Le (az Le (wG Kn Jn (c_) (fz M3)) V9) (wG Kn Jn (fz M3) (c_))))))))))
 (aQ V7)))))))
def CF:List Str:=["pen","many","letters","base","way","turn","size","found","k","sign","part","at"]
def FF(K:Za):TS :=
 cG (be (az (vw K true) V1 V0)) (dR (Dc K "list" gb V0 (aw V1))) (bC)
def G0:List Str:=["doors","door"]
def rO(K:Za)(sp_law_take:Sp)(sp_law_put:Sp):TS :=
 aq (aI (cT (bp)) U5)
 (aq (aI (aL sp_law_take (aT V0 (tC (.int 2)))) U6)
 (aq (fA (vS K (aw V3)) (g6 K 2 (aY U7 (aY U8 (gM)))) (aq (fA (tt (ak (az (cM K) (cT (ak (tC (.int 0)) (c9 (tC (.int 1)) (tC (.int 1)) (tC (.int 2))))) (aL sp_law_take (aT V0 (tC (.int 4))))) bp)) U9 (aq (aI (bj (ak (tC (.str "say")) (ak (az (cM K) V2 (aL sp_law_take (aT V0 (gk (ie K) (aw V2))))) bp))) Mh)
 (dR (aL sp_law_put (ak V5 (ak (bj (ak V8 (ak Jn (ak (az (cM K) V3 (aL sp_law_take (aT V0 (gk (ie K) (aw V3))))) bp)))) bp))))))
 (aq (fA (cr K V1) M5 (fA (tt (ak (az (cM K) (cT (ak V4 (c9 (tC (.int 1)) (tC (.int 1)) (tC (.int 2))))) (aL sp_law_take (aT V0 (tC (.int 4))))) bp)) U9 (dR (aL sp_law_put (ak V5 (ak (bj (ak V8 (ak (bj (aT (tC (.str "ask")) M3)) (ak (az (cM K) V3 (aL sp_law_take (aT V0 (gk (ie K) (aw V3))))) bp)))) bp))))))
 (aq (aI (az (cM K) (cT (ak (wG (lN K) V3 (fz (az dS V7 (tC (.int 1)))) (c_)) (aw (wG (lN K) V3 (c_) (fz V7))))) V6) U12)
 (cG (Hz (be (az (LH K) MZ (cT (bp)))) (be (az r9 (aL sp_law_take (aT V0 (tC (.int 3)))) (tC (.int 0))))) (dR (aL sp_law_put (ak V5 (ak (bj (ak V8 (ak (bj (aw (tC (.str "still")))) (ak (az (t7 K) MZ (aL sp_law_take (aT V0 (gk (ie K) (aw MZ))))) bp)))) bp)))) (bC))))))
 (aQ V5)))
def sJ:List Str:=["pen","asks","says","rooms","full","doors","down","k","room","turn","sign","ask","later"]
def Bq(K:Za)(sp_law_draw_doors:Sp)(sp_law_names:Sp)(sp_law_take:Sp)(sp_law_anew:Sp):TS :=
 aq (dR (aL sp_law_anew (aw V0)))
 (aq (aI (aL sp_law_names (aT V0 (tC (.int 8)))) U3)
 (aq (aI (wG (lN K) V3 (c_) (fz (az dS (tC (.int 1)) (az (cM K) (cT (ak (tC (.int 0)) (ak (tC (.int 1)) (ak (tC (.int 1)) (c9 (tC (.int 2)) (tC (.int 2)) (tC (.int 3))))))) (aL sp_law_take (aT V0 (tC (.int 6)))))))) U4)
 (aq (aI (wG (lN K) V3 (fz (tC (.int 4))) (fz (az dS (tC (.int 5)) (az (cM K) (cT (ak (tC (.int 0)) (ak (tC (.int 1)) (ak (tC (.int 1)) (c9 (tC (.int 2)) (tC (.int 2)) (tC (.int 3))))))) (aL sp_law_take (aT V0 (tC (.int 6)))))))) U5)
 (aq (aI (aL sp_law_names (aT V0 (az dS (tC (.int 1)) (aL sp_law_take (ak V0 (aw V1)))))) U6)
 (aq (aI (aL sp_law_draw_doors (ak V0 (ak V4 (c9 V5 V6 V2)))) U7)
 (aQ (bj (ak V4 (c9 V5 V6 V7)))))))))
def CG:List Str:=["pen","most","full","words","asks","says","rooms","doors"]
def wE(K:Za)(C_Machine:Addr)(sp_Machine_init:Sp):TS :=
 aQ (xx C_Machine sp_Machine_init [] E0 (ak (gk (fB K) (aw (az (t7 K) V0 (tC (.int 0))))) (ak (gk (fB K) (aw (az (t7 K) V0 (tC (.int 1))))) (ak (gk (fB K) (aw (az (t7 K) V0 (tC (.int 2))))) (ak (gk (fB K) (aw (az (t7 K) V0 (tC (.int 3))))) bp)))))
def xb:List Str:=["told"]
def FJ(K:Za):TS :=
 aQ (xy (az Ms V0 (tC (.str ""))) (xy (az rLeI (gk (ie K) (aw V0)) (tC (.int 8))) (gk (Mu K) (aw (cA 1 [] (MF V0) U0 (gj) (az rInS V0 (tC (.str "abcdefghijklmnopqrstuvwxyz"))))))))
def Hc:List Str:=["text"]
def FK(K:Za):TS :=
 aq (aI (vo) U1)
 (aq (fA (cr K V0) U2 (lH V1 V2 (tC (.bl true))))
 (aQ V1))
def Hd:List Str:=["things","keys","thing"]
def oT(K:Za)(sp_is_name:Sp)(sp_as_keys:Sp):TS :=
 aq (cG (be (az r9 (gk (ie K) (aw V0)) (tC (.int 0)))) (aQ (tC (.int 0))) (bC))
 (aq (aI (aL sp_as_keys (aw V2)) U3)
 (aq (fA (vS K (aw V0)) (g6 K 2 (aY U4 (aY U5 (gM)))) (aq (cG (C2 (be (az r9 V4 V1)) (C2 (tB (FL K V5 V3)) (LA (tB (aL sp_is_name (aw V5)))))) (aQ V4) (bC))
 (lH V3 V5 (tC (.bl true)))))
 (aQ (tC .non))))
def pE:List Str:=["names","most","taken","ahead","number","name"]
def zB(K:Za)(a_STILL:Addr):TS :=
 aQ (az jC (az jC (cA 1 [] (cr K V0) U0 (gj) (bj (aT (tC (.str "ask")) V0))) (cA 1 [] (cr K V1) U0 (gj) (bj (aT (tC (.str "say")) V0)))) (cT (aw (tC (.ref a_STILL)))))
def AX:List Str:=["asks","says"]
def oU(K:Za)(sp_as_keys:Sp):TS :=
 aq (aI (aL sp_as_keys (aw V1)) U3)
 (aq (aI (pb) U4)
 (aq (fA (vS K (aw V0)) (g6 K 2 (aY U5 (aY U6 (gM)))) (aq (cG (C2 (be (az r9 V5 (tC (.int 2000)))) (tB (FL K V6 V4))) (aQ V5) (bC))
 (aq (cG (C2 (tB (iX K (az (t7 K) V6 (tC (.int 0))) V3)) (C2 (be (az (vw K true) (az (t7 K) V6 (tC (.int 1))) V2)) (tB (iX K (az (t7 K) V6 (tC (.int 2))) V3)))) (aQ V5) (bC))
 (lH V4 V6 (tC (.bl true))))))
 (aQ (tC .non))))
def pF:List Str:=["doors","rooms","signs","own_rooms","ahead","number","door"]
def jB(K:Za):TS :=
 aq (aI (pb) U1)
 (aq (fA (cr K V0) (g6 K 3 (aY U2 (aY U3 (aY U4 (gM))))) (dR (Dc K "list" gb (Dc K "dict" Ex V1 (aT (bj (ak V2 (aw V3))) (cT (bp)))) (aw V4))))
 (aQ V1))
def jD:List Str:=["doors","goals","start","sign","goal"]
def vc(K:Za)(a_STILL:Addr):TS :=
 aq (aI (vo) U2)
 (aq (aI (cT (aw V1)) U3)
 (aq (vg (be (az Ge (gk (ie K) (aw V3)) (tC (.int 0)))) (aq (aI (JP K "list" LG V3) U4)
 (fA (MG K (zQ K V0 (bj (aT V4 (tC (.ref a_STILL)))) (bj (bp)))) U5 (cG (tB (iX K V5 V2)) (aq (lH V2 V5 (tC (.bl true)))
 (dR (Dc K "list" gb V3 (aw V5)))) (bC)))))
 (aQ V2)))
def wo:List Str:=["goals","room","led","waiting","here","goal"]
def pY(K:Za):TS :=
 aq (fA (vS K (aw V0)) (g6 K 2 (aY U2 (aY U3 (gM)))) (cG (tB (FL K V3 (mw K V1 V3))) (aQ V2) (bC)))
 (aQ (tC .non))
def rc:List Str:=["rooms","led","number","room"]
def Bm(K:Za):TS :=
 cG (tB (K7 V1)) (rS) (bC)
def CB:List Str:=["part","number"]
def zf(K:Za)(sp_need_none:Sp)(sp_first_wrong_door:Sp)(sp_door_signs:Sp)(sp_first_wrong_name:Sp):TS :=
 aq (dR (aL sp_need_none (aT (tC (.str "asks")) (aL sp_first_wrong_name (c9 V0 (tC (.int 4)) (cT (bp)))))))
 (aq (dR (aL sp_need_none (aT (tC (.str "says")) (aL sp_first_wrong_name (c9 V1 (tC (.int 4)) V0)))))
 (aq (dR (aL sp_need_none (aT (tC (.str "rooms")) (aL sp_first_wrong_name (c9 V2 (tC (.int 150)) (cT (bp)))))))
 (dR (aL sp_need_none (ak (tC (.str "doors")) (aw (aL sp_first_wrong_door (c9 V3 V2 (aL sp_door_signs (aT V0 V1))))))))))
def AQ:List Str:=["asks","says","rooms","doors"]
def rQ(K:Za):TS :=
 aq (aI (vo) U2)
 (aq (fA (cr K V0) U3 (lH V2 V3 (cT (bp))))
 (aq (fA (cr K V1) U4 (dR (Dc K "list" gb (mw K V2 (az (t7 K) V4 (tC (.int 0)))) (aw V4))))
 (aQ V2)))
def sL:List Str:=["rooms","doors","leaving","room","door"]
def rP(K:Za):TS :=
 aQ (gk (Mu K) (ak (cA 1 [] (cr K V0) U0 (gj) (az r9 (az (t7 K) (az (t7 K) V0 (tC (.int 1))) (tC (.int 0))) (tC (.str "ask")))) bp))
def sK:List Str:=["doors"]
def oZ(K:Za)(sp_need_none:Sp)(sp_first_led_round:Sp)(sp_led_by_still:Sp)(sp_goals_by_start_and_sign:Sp)(sp_as_keys:Sp)(sp_has_asks_alone:Sp)(sp_doors_by_start:Sp)(sp_need_parts:Sp):TS :=
 aq (dR (aL sp_need_parts (ak V1 (c9 V2 V3 V4))))
 (aq (qw K V0 (gk (fB K) (aw V1)) "own_asks")
 (aq (qw K V0 (gk (fB K) (aw V2)) "own_says")
 (aq (qw K V0 (gk (fB K) (aw V3)) "own_rooms")
 (aq (qw K V0 (gk (fB K) (aw V4)) "own_doors")
 (aq (qw K V0 (aL sp_doors_by_start (aT V3 V4)) "leaving")
 (aq (qw K V0 (aL sp_as_keys (ak (cA 1 [0] (cr K V3) U0 (tB (aL sp_has_asks_alone (aw (mw K (jh K V1 "leaving") V0)))) V0) bp)) "quiet")
 (aq (qw K V0 (aL sp_goals_by_start_and_sign (aw V4)) "sign_goals")
 (aq (qw K V0 (gk (Ko K) (ak (cA 1 [0] (cr K V3) U0 (gj) (bj (aT V0 (aL sp_led_by_still (ak (jh K V1 "sign_goals") (aw V0)))))) bp)) "still_led")
 (dR (aL sp_need_none (aT (tC (.str "still")) (aL sp_first_led_round (ak V3 (aw (jh K V0 "still_led")))))))))))))))
def pI:List Str:=["self","asks","says","rooms","doors"]
def oY(K:Za):TS :=
 aQ (FL K V1 (jh K V0 "quiet"))
def pH:List Str:=["self","room"]
def oy(K:Za)(sp_with_still:Sp)(C_Machine:Addr)(sp_Machine_goals:Sp)(a_HUSH:Addr)(sp_Machine_is_quiet:Sp):TS :=
 aq (cG (be (az (w6 K) V2 (tC (.ref a_HUSH)))) (aQ (gk (oz K) (aw (cA 1 [0] (B_ K V1) U0 (tB (cz C_Machine "is_quiet" sp_Machine_is_quiet [] E0 V1 (aw V0))) V0)))) (bC))
 (aq (aI (cT (bp)) U3)
 (aq (fA (B_ K V1) U4 (dR (Dc K "list" EA V3 (aw (cz C_Machine "goals" sp_Machine_goals [] E0 V0 (aT V4 V2))))))
 (aQ (aL sp_with_still (aT V0 V3)))))
def oC:List Str:=["M","face","sign","goals","room"]
def bJ(p:Addr)(H H':Hp):Prop:=∀b o,H b=some o->b≠p->H' b=some o
theorem bJ.refl(p:Addr)(H:Hp):bJ p H H:=fun _ _ h _=>h
theorem bJ.trans{p:Addr}{H e f:Hp}(a:bJ p H e)(b:bJ p e f):bJ p H f:=fun c o h n=>b c o (a c o h n) n
theorem ab.exB{p:Addr}{H e:Hp}(a:ab H e):bJ p H e:=fun b o h _=>a b o h
theorem bJ.upd(p:Addr)(H:Hp)(o:HO):bJ p H (upd H p o):=fun b u h n=>by rw[ai n];exact h
theorem ab.new{H:Hp}{a:Addr}{o:HO}(h:H a=none):ab H (upd H a o):=fun b u e=>by rw[ai (ae e h)];exact e
theorem bJ.free{p:Addr}{H a:Hp}(e:bJ p H a){u:HO}(f:a p=some u){l:Addr}(h:a l=none):H l=none:=by
 cases q:H l with
 |none=>rfl
 |some o =>
  by_cases z:l=p
  ·subst z;rw[f]at h;cases h
  ·rw[e l o q z]at h;cases h
theorem kp{H:Hp}{a b:Addr}{o x:HO}(h:H b=some o)(n:H a=none):upd H a x b=some o:=by rw[ai (ae h n)];exact h
structure Fp(H:Hp)(p c:Addr)(at_ rest:Int)(ns:List Int):Prop where
 pen:H p=some (.lst [.ref c,.int at_,.int rest])
 cells:H c=some (.lst (ns.map V.int))
 at0:0<=at_
 rest0:0<=rest
theorem Fp.ne{H:Hp}{p c:Addr}{a r:Int}{g:List Int}(h:Fp H p c a r g):c≠p:=by
 intro e;have i:=h.pen;have f:=h.cells;rw[e,i]at f;injection f with f;injection f with f;cases g with
 |nil=>cases f
 |cons n g=>injection f with f;cases f
def gP(H:Hp)(p c:Addr):Prop:=∃a r ns,Fp H p c a r ns
theorem gP.ex{H H':Hp}{p c:Addr}(h:gP H p c)(e:ab H H'):gP H' p c:=by
 obtain⟨a,r,f,g,i,j,k⟩:=h;exact⟨a,r,f,e _ _ g,e _ _ i,j,k⟩
theorem gP.pen{H:Hp}{p c:Addr}(h:gP H p c):∃o,H p=some o:=by
 obtain⟨a,r,f,e,_⟩:=h;exact⟨_,e⟩
theorem gP.cell{H:Hp}{p c:Addr}(h:gP H p c):∃o,H c=some o:=by
 obtain⟨a,r,f,_,e,_⟩:=h;exact⟨_,e⟩
theorem gP.upd{H:Hp}{p c l:Addr}{o:HO}(h:gP H p c)(e:p≠l)(f:c≠l):gP (upd H l o) p c:=by
 obtain⟨a,r,g,i,j,k,m⟩:=h;exact⟨a,r,g,by rw[ai e];exact i,by rw[ai f];exact j,k,m⟩
theorem gP.nep{H:Hp}{p c l:Addr}(h:gP H p c)(a:H l=none):p≠l:=let⟨_,e⟩:=h.pen;ae e a
theorem gP.nec{H:Hp}{p c l:Addr}(h:gP H p c)(a:H l=none):c≠l:=let⟨_,e⟩:=h.cell;ae e a
theorem bJ.new{p:Addr}{H:Hp}{a:Addr}{o:HO}(h:H a=none):bJ p H (L2.upd H a o):=fun b u e _=>by rw[ai (ae e h)];exact e
inductive m8 (vs:List V)(H:Hp)(Q:VK)(E:XK):Prop
 |mk (c a:Int):(vs=[.int c,.int a])->(0<=a)->(∀r:Int,0<=r->Q (.int r) H)->m8  vs H Q E
theorem qY{i j:Int}(a:-(2 ^ 64)<j)(e:j<2 ^ 64):Jy i j:=.inr ⟨a,e⟩
theorem FQ{K:Za}{f:List V}{H:Hp}{Q:VK}{E:XK}(h:m8 f H Q E):zm K (bq Q) (start AS f) H:=by
 obtain⟨c,a,rfl,x,k⟩:=h;refine⟨_,rfl,_,_,rfl,rfl,⟨by decide,by decide,by decide⟩,_,_,rfl,rfl,_,rfl,?_⟩;refine mJ (fun h=>?_) (fun _=>?_)
 ·refine⟨_,rfl,k _ ?_⟩;have:=of_decide_eq_true h;have e:((10:Int) ^ (18:Int).toNat)=1000000000000000000:=by decide
  omega
 ·have one:∀z:Int,0<=z % 2147483629/\z % 2147483629<2147483629:=fun z=>⟨kJ _ (by decide),kI _ (by decide)⟩;have two:∀z:Int,0<=z % 2147483587/\z % 2147483587<2147483587:=fun z=>⟨kJ _ (by decide),kI _ (by decide)⟩;have three:∀z:Int,0<=z % 2147483563/\z % 2147483563<2147483563:=fun z=>⟨kJ _ (by decide),kI _ (by decide)⟩;refine⟨_,rfl,_,_,rfl,rfl,(by show(0:Int)<1000000007;decide),_,_,rfl,rfl,qY (by decide) (by decide),_,rfl,_,_,rfl,rfl,qY (by decide) (by decide),_,_,rfl,rfl,_,_,rfl,rfl,_,_,rfl,rfl,(by show(0:Int)<2147483629;decide),?_⟩;generalize l:(c % 1000000007 * 69069+a * 40503+977)=g;obtain⟨m,n⟩:=one g;generalize g % 2147483629=o at m n ⊢;refine⟨_,rfl,_,rfl,_,_,rfl,rfl,qY (by omega) (by omega),_,rfl,_,_,rfl,rfl,qY (by decide) (by decide),_,_,rfl,rfl,_,rfl,_,_,rfl,rfl,(by show(0:Int)<65537;decide),_,_,rfl,rfl,_,_,rfl,rfl,(by show(0:Int)<2147483587;decide),?_⟩;generalize p:(o * o+a * 7919+c % 65537)=i;obtain⟨s,t⟩:=two i;generalize i % 2147483587=q at s t ⊢;refine⟨_,rfl,_,rfl,_,_,rfl,rfl,qY (by omega) (by omega),_,rfl,_,_,rfl,rfl,qY (by decide) (by decide),_,_,rfl,rfl,_,_,rfl,rfl,_,_,rfl,rfl,(by show(0:Int)<2147483563;decide),?_⟩;generalize u:(q * q+o * 31+5)=j;obtain⟨v,w⟩:=three j;generalize j % 2147483563=r at v w ⊢;refine⟨_,rfl,_,_,rfl,rfl,qY (by decide) (by decide),_,rfl,_,_,rfl,rfl,_,_,rfl,rfl,qY (by decide) (by decide),_,rfl,_,_,rfl,rfl,k _ ?_⟩;omega
def zV:Sp:=fun vs H Q _=>∃p c,vs=[.ref p]/\gP H p c/\∀H',gP H' p c->bJ p H H'->Q (.ref p) H'
theorem Km{K:Za}{e:List V}{H:Hp}{Q:VK}{E:XK}(h:zV e H Q E):C1 K (bq Q) (start Ea e) H:=by
 obtain⟨p,c,rfl,⟨a,r,f,h⟩,k⟩:=h;refine⟨_,rfl,p,_,_,_,rfl,rfl,h.pen,rfl,_,rfl,k _ ⟨a,0,f,aa,?_,h.at0,rg 0⟩ (bJ.upd _ _ _)⟩;rw[ai h.ne];exact h.cells
theorem Fj{ns:List Int}{a:Int}(e:0<=a)(g:a<ns.length):∃z,AJ (ns.map V.int) a=some (.int z):=by
 obtain⟨n,rfl⟩:=oI e;have f:n<ns.length:=by omega
 exact⟨ns[n],aN (by simp[f])⟩
inductive fb (vs:List V)(H:Hp)(Q:VK)(E:XK):Prop
 |mk (p c:Addr) (m:Int):(vs=[.ref p,.int m])->(gP H p c)->(0<m)->(m<1073741824)->(∀(r:Int) (H':Hp),0<=r->r<m->gP H' p c->bJ p H H'->Q (.int r) H')->fb  vs H Q E
theorem iP{H:Hp}{Q:VK}{E:XK}{p c:Addr}{m:Int}(e:gP H p c)(f:0<m)(g:m<1073741824)(k:∀(r:Int) (a:Hp),0<=r->r<m->gP a p c->bJ p H a->Q (.int r) a):fb [.ref p,.int m] H Q E:=by
 exact⟨p,c,m,rfl,e,f,g,k⟩
theorem Ka{K:Za}{t:List V}{H:Hp}{Q:VK}{E:XK}(h:fb t H Q E):CZ K m8 (bq Q) (start D0 t) H:=by
 obtain⟨p,c,m,rfl,⟨a,r,ns,h⟩,j,l,k⟩:=h;have f:∀(H':Hp) (n u:Int) (x y:Option V),Fp H' p c n u ns->bJ p H H' ->
   (aq (aI (az jo (az (cM K) V0 (tC (.int 2))) V1) U4) (aq (aI (az HX (az (cM K) V0 (tC (.int 2))) V1) (xa V0 (tC (.int 2)) oA)) (aQ V4)))
    (bq Q) [some (.ref p),some (.int m),x,y,none] H':=by
  intro H' n u x y g ex;refine⟨_,rfl,p,_,2,_,rfl,rfl,ay.of g.pen,rfl,_,rfl,_,_,rfl,rfl,j,?_⟩;refine⟨_,rfl,p,_,2,_,rfl,rfl,ay.of g.pen,rfl,_,rfl,_,_,rfl,rfl,⟨j,l⟩,_,rfl,p,_,_,_,rfl,rfl,g.pen,rfl,?_⟩;refine⟨_,rfl,k _ _ (kJ _ (by omega)) (kI _ j) ⟨n,_,ns,aa,?_,g.at0,Int.ediv_nonneg g.rest0 (by omega)⟩ (ex.trans (bJ.upd _ _ _))⟩;rw[ai g.ne];exact g.cells
 refine⟨_,rfl,p,_,2,_,rfl,rfl,ay.of h.pen,rfl,_,rfl,_,_,rfl,rfl,_,rfl,?_⟩;refine mJ (fun B=>?_) (fun B=>?_)
 ·-- at=pen[1];cell=0;if at<C(pen[0])
  refine⟨_,rfl,p,_,1,_,rfl,rfl,ay.of h.pen,rfl,?_⟩;have o:(V.int ((ns.map V.int).length:Nat))=V.int (ns.length:Nat):=by rw[ah]
  refine⟨_,rfl,_,rfl,p,_,0,_,rfl,rfl,ay.of h.pen,rfl,.inl ⟨c,_,rfl,.inl (ay.of h.cells),_,_,rfl,o,_,rfl,?_⟩⟩;refine mJ (fun v=>?_) (fun v=>?_)
  ·obtain⟨z,s⟩:=Fj (ns:=ns) h.at0 (of_decide_eq_true v);refine⟨_,rfl,p,_,0,_,rfl,rfl,ay.of h.pen,rfl,_,rfl,c,_,_,_,rfl,rfl,ay.of h.cells,s,?_⟩;refine⟨_,rfl,_,_,rfl,rfl,_,rfl,p,_,_,_,rfl,rfl,h.pen,rfl,?_⟩;refine⟨_,rfl,_,rfl,_,_,rfl,h.at0,fun q i=>⟨_,rfl,p,_,_,_,rfl,rfl,aa,rfl,?_⟩⟩;rw[uj];refine f _ (a+1) q _ _ ⟨aa,by rw[ai h.ne];exact h.cells,by have:=h.at0;omega,i⟩ (bJ.upd _ _ _)
  ·refine⟨_,rfl,p,_,0,_,rfl,rfl,ay.of h.pen,rfl,.inl ⟨c,_,rfl,.inl (ay.of h.cells),_,_,o,rfl,_,rfl,?_⟩⟩;refine mJ (fun w=>?_) (fun w=>?_)
   ·have A:(0:Int)<ns.length:=of_decide_eq_true w;obtain⟨z,s⟩:=Fj (ns:=ns) (a:=(a * 5+3) % (ns.length:Int)) (kJ _ (by omega)) (kI _ A);refine⟨_,rfl,p,_,0,_,rfl,rfl,ay.of h.pen,rfl,_,rfl,_,_,rfl,rfl,qY (by decide) (by decide),_,_,rfl,rfl,_,rfl,p,_,0,_,rfl,rfl,ay.of h.pen,rfl,.inl ⟨c,_,rfl,.inl (ay.of h.cells),_,_,rfl,o,A,c,_,_,_,rfl,rfl,ay.of h.cells,s,?_⟩⟩;refine⟨_,_,rfl,rfl,⟨by decide,by decide,by decide⟩,_,rfl,_,_,rfl,rfl,_,_,rfl,rfl,?_,?_⟩
    ·have e:((10:Int) ^ (17:Int).toNat)=100000000000000000:=by decide
     have:=h.at0;show(0:Int)<10 ^ (17:Int).toNat+a;omega
    refine⟨_,rfl,_,_,rfl,rfl,_,rfl,p,_,_,_,rfl,rfl,h.pen,rfl,?_⟩;refine⟨_,rfl,_,rfl,_,_,rfl,h.at0,fun q i=>⟨_,rfl,p,_,_,_,rfl,rfl,aa,rfl,?_⟩⟩;rw[uj];refine f _ (a+1) q _ _ ⟨aa,by rw[ai h.ne];exact h.cells,by have:=h.at0;omega,i⟩ (bJ.upd _ _ _)
   ·refine⟨_,rfl,_,_,rfl,rfl,_,rfl,p,_,_,_,rfl,rfl,h.pen,rfl,?_⟩;refine⟨_,rfl,_,rfl,_,_,rfl,h.at0,fun q i=>⟨_,rfl,p,_,_,_,rfl,rfl,aa,rfl,?_⟩⟩;rw[uj];refine f _ (a+1) q _ _ ⟨aa,by rw[ai h.ne];exact h.cells,by have:=h.at0;omega,i⟩ (bJ.upd _ _ _)
 ·exact f H a r _ _ h (bJ.refl _ _)
inductive um(K:Za)(vs:List V)(H:Hp)(Q:VK)(E:XK):Prop
 |mk (a:Addr) (ns:List Int):(vs=[.ref a])->(ay K H a (ns.map V.int))->(ns.length<=63)->(∀(p c:Addr) (H':Hp),H p=none->gP H' p c->ab H H'->Q (.ref p) H')->um K vs H Q E
theorem xZ(a:List Int)(lo e:Option Int):∃f:List Int,gq (a.map V.int) lo e=f.map V.int/\f.length=(gq (a.map V.int) lo e).length:=by
 refine⟨(a.drop (HT.sIx (a.map V.int).length 0 lo)).take (HT.sIx (a.map V.int).length (a.map V.int).length e-HT.sIx (a.map V.int).length 0 lo),?_,?_⟩
 ·unfold gq;rw[yI,yH]
 ·unfold gq;rw[aA,aA,eF,eF,ah]
theorem Kc{K:Za}{vs:List V}{H:Hp}{Q:VK}{E:XK}(h:um K vs H Q E):C0 K (bq Q) (start D_ vs) H:=by
 obtain⟨a,s,rfl,hs,hn,k⟩:=h;obtain⟨D,e0,l0⟩:=xZ s none (some 12);obtain⟨B,e1,l1⟩:=xZ s (some 12) (some 63);have G:B≠[]->D.length=12:=by
  intro L;have l:0<B.length:=by cases B with|nil=>exact absurd rfl L|cons _ _=>simp
  rw[l1]at l;rw[l0];unfold gq at l ⊢;rw[aA,eF,ah]at l;rw[aA,eF,ah];have s1:HT.sIx s.length 0 (some 12)=min 12 s.length:=HT.sIx_nat _ _ 12;have s2:HT.sIx s.length s.length (some 12)=min 12 s.length:=HT.sIx_nat _ _ 12;rw[HT.sIx_none,s2];rw[s1]at l;omega
 refine⟨_,rfl,_,rfl,a,_,rfl,hs,fun q hq=>.inl ⟨q,_,rfl,.inl (ay.of aa),fun c C=>?_⟩⟩;rw[e0]at C ⊢;have M:H c=none:=by
  have:c≠q:=fun z=>by subst z;rw[aa]at C;cases C
  rw[ai this]at C;exact C
 have hS:ab H (upd (upd H q (.lst (D.map V.int))) c (.lst (D.map V.int))):=(ab.new hq).trans (ab.new C);refine⟨_,rfl,_,rfl,_,rfl,a,_,rfl,hS.seq hs,fun r N=>⟨r,rfl,⟨_,ay.of aa⟩,?_⟩⟩;rw[e1];have O:c≠r:=ae aa N
 let T:Nat->L2.St->Hp->Prop:=fun i σ w=>Mi fun(j:List Int) (x y:Option V)=>Jr (σ=[some (.ref a),some (.ref c),x,y]) (w c=some (.lst (j.map V.int))) (j.length=D.length) (w r=some (.lst (B.map V.int))) (ab H w)
 refine ky (xs:=B.map V.int) T
  ⟨D,none,none,rfl,kp aa N,rfl,aa,hS.trans (ab.new N)⟩ (fun i σ w _ zq=>by obtain⟨j,x,y,_,_,_,h,_⟩:=zq;exact ay.of h) ?_ ?_
 ·rintro i x σ w t U ⟨j,u,v,rfl,f,I,J,m⟩ Y;have A:i<B.length:=by
   have:=(cj.mp U).1;rwa[ah]at this
  have ap:=G (fun z=>by rw[z]at A;simp at A);obtain⟨z,rfl⟩:∃z,x=V.int z:=by
   rw[cC,bM A]at U;exact⟨_,(f6 U).symm⟩
  have g:upd w t (.tup [.int i,.int z]) c=some (.lst (j.map V.int)):=kp f Y;have n:(i:Int) % 12=((i % 12:Nat):Int):=by omega
  have al:i % 12<j.length:=by omega
  refine⟨t,_,rfl,bT.of aa,rfl,_,_,rfl,_,_,rfl,rfl,?_⟩;have an:AJ (j.map V.int) ((i:Int) % 12)=some (.int j[i % 12]):=by rw[n];exact aN (by simp[al])
  refine⟨_,rfl,_,rfl,_,_,rfl,rfl,(by show(0:Int)<12;decide),c,_,_,_,rfl,rfl,ay.of g,an,_,rfl,_,_,rfl,rfl,_,rfl,_,rfl,_,_,rfl,rfl,(by show(0:Int)<12;decide),c,_,_,i % 12,rfl,rfl,g,?_,?_⟩
  ·rw[n];unfold Hf;rw[if_pos (by omega),if_pos (by rw[ah];omega)];rw[oQ]
  ·refine⟨j.set (i % 12) (j[i % 12]+z),_,_,rfl,?_,by rw[kM];exact I,?_,?_⟩
   ·rw[aa,yG]
   ·rw[ai O.symm];exact kp J Y
   ·intro b o e;rw[ai (ae e M)];exact kp (m b o e) Y
 ·rintro σ w ⟨j,x,y,rfl,f,I,J,m⟩;refine⟨_,rfl,(by show 3<=aj;decide),fun p hp=>k p c _ (m.free hp) ⟨0,0,j,aa,kp f hp,rg _,rg _⟩ (m.trans (ab.new hp))⟩
def Ai(c:Nat):Prop:=97<=c/\c<=122
structure sN(w:Str):Prop where
 lo:1<=w.length
 hi:w.length<=8
 al:∀c∈w.cps.toList,Ai c
theorem Fm:∀n:Nat,n<26->(("abcdefghijklmnopqrstuvwxyz":Str).cps.toList)[n]?=some (97+n):=by decide +kernel
theorem Fl:("abcdefghijklmnopqrstuvwxyz":Str).length<=aj:=by decide +kernel
theorem Jm{r:Int}(a:0<=r)(e:r<26):AJ (("abcdefghijklmnopqrstuvwxyz":Str).cps.toList) r=some (97+r.toNat):=by
 obtain⟨n,rfl⟩:=oI a;rw[oQ];exact aN (Fm n (by omega))
theorem w8(f:List Nat):∀a:Array Nat,((f.map fun c=>(⟨#[c]⟩:Str)).foldl (fun a p=>a++("":Str).cps++p.cps) a).toList=a.toList++f:=by
 have e:("":Str).cps=#[]:=by decide +kernel
 induction f with
 |nil=>intro a;simp
 |cons c f g =>
  intro a;rw[bF,List.foldl_cons,g,e];simp
theorem DE(a:List Nat):(yT "" (a.map fun c=>(⟨#[c]⟩:Str))).cps.toList=a:=by
 unfold yT cc.Str.glued;cases a with
 |nil=>rfl
 |cons c a =>
  rw[bF];show((a.map fun c=>(⟨#[c]⟩:Str)).foldl (fun e p=>e++("":Str).cps++p.cps) #[c]).toList=_;rw[w8]
  rfl
theorem JU{a b:Str}(h:a.cps.toList=b.cps.toList):a=b:=by
 cases a with|mk x=>cases b with|mk y=>exact congrArg Str.mk (Array.toList_inj.mp h)
theorem ga(a:Str):a.length=a.cps.toList.length:=by simp[Str.length]
theorem AK(a b:Str):(a++b).cps.toList=a.cps.toList++b.cps.toList:=by
 show(a.cps++b.cps).toList=_;simp
theorem Jf(z:Str)(m:Nat):(vX z none (some (m:Int))).cps.toList=z.cps.toList.take m:=by
 unfold vX;rw[HT.sIx_none,HT.sIx_nat,uS,Nat.sub_zero,ga];show List.take _ _=_;rw[List.take_eq_take_iff];omega
theorem Jg(z:Str)(m:Nat):(vX z (some (m:Int)) none).cps.toList=z.cps.toList.drop m:=by
 unfold vX;rw[HT.sIx_none,HT.sIx_nat,ga];show List.take _ _=_;rw[uP (by rw[eF];omega)];by_cases h:m<=z.cps.toList.length
 ·rw[uL h]
 ·rw[Nat.min_eq_right (by omega),oH,rA (by omega)]
def fU(way size k:Nat):Nat:=(size+k * (way % 2)) % 8
def CL(way m:Nat):Nat:=if way=0 then 0 else if way=1 then m else m / 2
def ox(b:List Nat)(way turn size k:Nat):List Nat :=
 (b.take (fU way size k)).take (CL way (fU way size k))++[97+(turn+3 * k) % 26]++(b.take (fU way size k)).drop (CL way (fU way size k))
def Bg(b:List Nat)(way turn size k:Nat):Str:=⟨(ox b way turn size k).toArray⟩
theorem rK{b:List Nat}(e:b.length=7)(way turn a k:Nat):(ox b way turn a k).length=fU way a k+1:=by
 have f:fU way a k<8:=uK _ (by decide);unfold ox;rw[aO,aO,aA,eF,aA,e];have:CL way (fU way a k)<=fU way a k:=by unfold CL;split;omega;split;omega;omega
 simp;omega
theorem JI{b:List Nat}(h:b.length=7)(f:∀c∈b,Ai c)(way turn a k:Nat):sN (Bg b way turn a k):=by
 have i:fU way a k<8:=uK _ (by decide);have g:=rK h way turn a k;have e:(Bg b way turn a k).cps.toList=ox b way turn a k:=by simp[Bg]
 refine⟨?_,?_,?_⟩
 ·rw[ga,e];omega
 ·rw[ga,e];omega
 ·rw[e];intro c hc;unfold ox at hc;rcases bL.mp hc with hc|hc
  ·rcases bL.mp hc with hc|hc
   ·exact f c (gQ (gQ hc))
   ·have:c=97+(turn+3 * k) % 26:=by simpa using hc
    subst this;have:(turn+3 * k) % 26<26:=uK _ (by decide);exact⟨by omega,by omega⟩
  ·exact f c (gQ (yF hc))
theorem Hn{b:List Nat}(f:b.length=7){way turn a:Nat}(r:way<3){j k:Nat}(t:j<26)(u:k<26)(h:Bg b way turn a j=Bg b way turn a k):j=k:=by
 have n:∀i,fU way a i<8:=fun i=>uK _ (by decide);have e:ox b way turn a j=ox b way turn a k:=by
  have:=congrArg (fun s=>Str.cps s |>.toList) h;simpa[Bg]using this
 have o:fU way a j=fU way a k:=by
  have:=congrArg List.length e;rw[rK f,rK f]at this;omega
 have p:97+(turn+3 * j) % 26=97+(turn+3 * k) % 26:=by
  have g:∀i,CL way (fU way a i)<=fU way a i:=fun i=>by unfold CL;split;omega;split;omega;omega
  have get:∀i,(ox b way turn a i)[CL way (fU way a i)]?=some (97+(turn+3 * i) % 26):=by
   intro i;unfold ox;have q:((b.take (fU way a i)).take (CL way (fU way a i))).length=CL way (fU way a i):=by
    rw[aA,aA,f];have:=n i;have:=g i;omega
   rw[fS,u5 (by omega),q,Nat.sub_self]
   rfl
  have l:=get j;have m:=get k;rw[e,o]at l;rw[l]at m;exact f6 m
 omega
def nM(ws:Zb):Prop:=ws.Nodup/\∀w∈ws,sN w
def kN(b:List Nat)(way turn size n:Nat):List Str:=(pT n).map (Bg b way turn size)
theorem CP{b:List Nat}(g:b.length=7)(i:∀c∈b,Ai c){a turn e n:Nat}(l:a<3)(q:n<=26):nM (kN b a turn e n):=by
 refine⟨?_,fun w m=>?_⟩
 ·unfold kN;rw[yE,List.pairwise_map];refine(List.nodup_range (n:=n)).imp_of_mem ?_;intro j k o p f h;exact f (Hn g l (by have:=List.mem_range.mp o;omega) (by have:=List.mem_range.mp p;omega) h)
 ·obtain⟨k,_,rfl⟩:=aV.mp m;exact JI g i _ _ _ _
inductive qg (vs:List V)(H:Hp)(Q:VK)(E:XK):Prop
 |mk (p c:Addr) (n:Nat):(vs=[.ref p,.int n])->(gP H p c)->(n<=26)->(∀(l:Addr) (ws:Zb) (H':Hp),nM ws->ws.length=n->H l=none->H' l=some (.lst (ws.map V.str))->gP H' p c->bJ p H H'->Q (.ref l) H')->qg  vs H Q E
theorem HI{K:Za}{A:List V}{H:Hp}{Q:VK}{E:XK}(h:qg A H Q E):Bp K fb (bq Q) (start CF A) H:=by
 obtain⟨p,c,n,rfl,C,hn,k⟩:=h;refine⟨rfl,7,rfl,by decide,by decide,fun l I=>?_⟩
 let aC:Nat->List V->Hp->Prop:=fun i A u=>∃o:List Nat,A=o.map (fun c=>V.str ⟨#[c]⟩)/\o.length=i/\(∀c∈o,Ai c)/\gP u p c/\bJ p H u/\u l=some (.lst A)
 refine DP (lo:=0) (n:=uJ 7) aC
  ⟨[],rfl,rfl,(fun _ h=>nomatch h),C.ex (ab.new I),bJ.new I,aa⟩ (fun i A u _ zq=>by obtain⟨_,_,_,_,_,_,h⟩:=zq;exact h) ?_ ?_
 rotate_left
 ·rintro i A u hi ⟨o,rfl,g,w,v,a0,a4⟩;have J:=C.nep I;have a5:=C.nec I;refine gN (oS ?_);refine⟨_,rfl,_,rfl,iP v (by decide) (by decide) fun r H2 h0 h1 D s=>⟨_,r,_,rfl,rfl,Fl,Jm h0 h1,?_⟩⟩;have a6:=s l _ a4 J.symm;refine⟨a6,by rw[ah,g];exact ar (by omega),n5 hi ⟨o++[97+r.toNat],by rw[ax];rfl,by rw[aO,g];rfl,?_,D.upd J a5,?_,aa⟩⟩
  ·intro x hc;rcases bL.mp hc with hc|hc
   ·exact w x hc
   ·have:x=97+r.toNat:=by simpa using hc
    subst this;exact⟨by omega,by omega⟩
  ·intro b o' e nb;rw[ai (ae e I)];exact s b o' (a0 b o' e nb) nb
 ·rintro A H1 ⟨o,rfl,g,w,a7,L,a8⟩;refine⟨"",l,o.map fun c=>(⟨#[c]⟩:Str),rfl,rfl,ay.of (by rw[a8,jR];rfl),?_,?_⟩
  ·have e0:("":Str).length=0:=by decide +kernel
   rw[e0,Nat.mul_zero,jR];have:∀o:List Nat,(o.map ((fun x=>Str.length x) ∘ fun c=>(⟨#[c]⟩:Str))).sum=o.length:=by
    intro o
    induction o with
    |nil=>rfl
    |cons c o ih=>rw[bF,oG,ih,gC];show 1+_=_;omega
   rw[this,g];decide
  refine⟨_,rfl,iP a7 (by decide) (by decide) fun bh H2 w0 w1 D s=>?_⟩;refine⟨_,rfl,iP D (by decide) (by decide) fun turn H3 t0 t1 a9 M=>?_⟩;refine⟨_,rfl,iP a9 (by decide) (by decide) fun bf H4 s0 s1 N O=>?_⟩;have T:bJ p H H4:=((L.trans s).trans M).trans O;obtain⟨j,rfl⟩:=oI w0;obtain⟨G,rfl⟩:=oI t0;obtain⟨sz,rfl⟩:=oI s0;have hb:=DE o;generalize yT "" (o.map fun c=>(⟨#[c]⟩:Str))=base at hb ⊢;refine⟨(by show 0<=aj;decide),fun f hf=>?_⟩;obtain⟨op,ba⟩:=N.pen;have y:H f=none:=T.free ba hf;have U:=C.nep y;have Y:=C.nec y;refine⟨_,rfl,n,rfl,by omega,by omega,jb (lo:=0) (n:=((n:Int)).toNat) (fun i σ u=>∃(a b c' d:Option V),σ=[some (.ref p),some (.int n),some (.str "abcdefghijklmnopqrstuvwxyz"),some (.str base),some (.int j),some (.int G),some (.int sz),some (.ref f),a,b,c',d] /\
   gP u p c/\bJ p H u/\u f=some (.lst ((kN o j G sz i).map V.str)))
   ⟨_,_,_,_,rfl,N.upd U Y,T.trans (bJ.new hf),aa⟩ ?_ ?_⟩
  ·rintro i σ u hi ⟨a,b,c',d,rfl,v,t,z⟩;have bi:i<n:=by omega
   have bl:j<3:=by omega
   have bc:((G:Int)+3 * (0+(i:Int))) % 26=(((G+3 * i) % 26:Nat):Int):=by omega
   refine⟨_,rfl,_,rfl,_,rfl,_,_,rfl,rfl,.inl ⟨by decide,by decide⟩,_,_,rfl,rfl,_,_,rfl,rfl,(by show(0:Int)<26;decide),_,_,_,rfl,rfl,Fl,Jm (kJ _ (by decide)) (kI _ (by decide)),?_⟩;have al:base.length<=aj:=by rw[ga,hb,g];decide
   have e8:((sz:Int)+(0+(i:Int)) * ((j:Int) % 2)) % 8=((fU j sz i:Nat):Int):=by
    unfold fU;have:j=0∨j=1∨j=2:=by omega
    rcases this with rfl|rfl|rfl<;>simp<;>omega
   refine⟨_,rfl,_,rfl,_,rfl,_,rfl,_,_,rfl,rfl,(by show(0:Int)<2;decide),_,_,rfl,rfl,.inr ⟨by omega,by omega⟩,_,_,rfl,rfl,_,_,rfl,rfl,(by show(0:Int)<8;decide),_,rfl,base,rfl,al,?_⟩;rw[e8];have m:=Jf base (fU j sz i);rw[hb]at m;generalize vX base none (some ((fU j sz i:Nat):Int))=part at m ⊢;have h8:fU j sz i<8:=uK _ (by decide);have B:part.length=fU j sz i:=by rw[ga,m,aA,g];omega
   have pz:part.length<=aj:=by rw[B];exact cW (ar (by omega))
   refine⟨_,rfl,.inr ⟨part,rfl,pz,_,rfl,.inr ⟨part,rfl,pz,_,_,rfl,rfl,⟨by decide,by decide⟩,(by show 3<=aj;decide),fun q hq=>?_⟩⟩⟩;have an:H q=none:=by
    obtain⟨bn,ap⟩:=v.pen;exact t.free ap hq
   have bd:AJ [V.int 0,V.int (part.length:Nat),V.int ((part.length:Int) / 2)] (j:Int)=some (.int (CL j (fU j sz i):Nat)):=by
    rw[B];have:j=0∨j=1∨j=2:=by omega
    rcases this with rfl|rfl|rfl
    ·rfl
    ·rfl
    ·show some (V.int (((fU 2 sz i:Nat):Int) / 2))=some (V.int ((CL 2 (fU 2 sz i):Nat):Int));have:CL 2 (fU 2 sz i)=fU 2 sz i / 2:=rfl;rw[this];congr 2
   refine⟨_,rfl,q,_,_,_,rfl,rfl,ay.of aa,bd,?_⟩;have as:upd u q (.lst [V.int 0,V.int (part.length:Nat),V.int ((part.length:Int) / 2)]) f=some (.lst ((kN o j G sz i).map V.str)):=kp z hq;have c1:=Jf part (CL j (fU j sz i));have c2:=Jg part (CL j (fU j sz i));have l1:(vX part none (some ((CL j (fU j sz i):Nat):Int))).length<=8:=by rw[ga,c1,aA,m,aA,g];omega
   have l2:(vX part (some ((CL j (fU j sz i):Nat):Int)) none).length<=8:=by rw[ga,c2,eF,m,aA,g];omega
   refine⟨_,rfl,.inl ⟨rfl,_,ay.of as⟩,_,rfl,_,rfl,_,rfl,part,rfl,pz,_,rfl,_,_,rfl,rfl,?_,_,rfl,_,rfl,_,rfl,part,rfl,pz,_,_,rfl,rfl,?_,f,_,_,rfl,rfl,as,?_,?_⟩
   ·have:Str.length ⟨#[97+(((G:Int)+3 * (0+(i:Int))) % 26).toNat]⟩=1:=rfl;rw[this];exact cW (ar (by omega))
   ·rw[ga,AK,aO,<-ga,<-ga];have:Str.length ⟨#[97+(((G:Int)+3 * (0+(i:Int))) % 26).toNat]⟩=1:=rfl;rw[this];exact cW (ar (by omega))
   ·rw[ah];unfold kN;rw[ah,List.length_range];exact ar (by omega)
   ·refine⟨_,_,_,_,rfl,(v.upd (C.nep an) (C.nec an)).upd U Y,?_,?_⟩
    ·intro b' o' e nb;rw[ai (ae e y)];exact kp (t b' o' e nb) hq
    ·rw[aa];unfold kN;rw[List.range_succ,ax,ax];congr 3;show[V.str _]=[V.str _];congr 2;refine JU ?_;rw[AK,AK,c1,c2,m,bc,oQ];simp[Bg,ox]
  ·rintro σ u ⟨a,b,c',d,rfl,v,t,z⟩;have en:((n:Int)).toNat=n:=by omega
   rw[en]at z;exact⟨_,rfl,k f _ u (CP g w (by omega) hn) (by unfold kN;rw[ah,List.length_range]) y z v t⟩
structure ao where
 a:Str
 sg:List Str
 b:Str
deriving DecidableEq
def SignAt(H:Hp)(s:Addr)(sg:Zb):Prop:=H s=some (.tup (sg.map V.str))
def jy(H:Hp)(t:Addr)(d:ao):Prop:=∃s,H t=some (.tup [.str d.a,.ref s,.str d.b])/\SignAt H s d.sg
def gg(H H':Hp):Prop:=∀b xs,H b=some (.tup xs)->H' b=some (.tup xs)
theorem jy.kt{H H':Hp}{t:Addr}{d:ao}(k:gg H H')(h:jy H t d):jy H' t d:=by
 obtain⟨s,a,e⟩:=h;exact⟨s,k _ _ a,k _ _ e⟩
theorem bJ.kt{p:Addr}{H a:Hp}{f:List V}(e:bJ p H a)(g:H p=some (.lst f)):gg H a:=fun b i h=>e b _ h (fun z=>by rw[z,g]at h;cases h)
theorem ab.kt{H a:Hp}(e:ab H a):gg H a:=fun b f h=>e b _ h
theorem gg.trans{H e f:Hp}(a:gg H e)(b:gg e f):gg H f:=fun x g h=>b x g (a x g h)
theorem dO{H:Hp}{l:Addr}{a:List V}{o:HO}(h:H l=some (.lst a)):gg H (upd H l o):=fun b f e=>by
 rw[ai (fun z=>by rw[z,h]at e;cases e)];exact e
abbrev fP(H:Hp)(ts:Ze)(ds:List ao):Prop:=Paired (jy H) ts ds
theorem Paired.get{α β:Type}{R:α->β->Prop}{a:List α}{e:List β}{i:Nat}{y:β}(g:Paired R a e)(h:e[i]?=some y):∃x,a[i]?=some x/\R x y:=by
 induction g generalizing i with
 |nil=>cases h
 |cons r _ f =>
  cases i with
  |zero=>injection h with h;subst h;exact⟨_,rfl,r⟩
  |succ i=>exact f h
theorem Paired.getL{α β:Type}{R:α->β->Prop}{a:List α}{e:List β}{i:Nat}{x:α}(g:Paired R a e)(h:a[i]?=some x):∃y,e[i]?=some y/\R x y:=by
 induction g generalizing i with
 |nil=>cases h
 |cons r _ f =>
  cases i with
  |zero=>injection h with h;subst h;exact⟨_,rfl,r⟩
  |succ i=>exact f h
theorem fP.kt{H H':Hp}{a:Ze}{e:List ao}(k:gg H H')(h:fP H a e):fP H' a e:=Paired.mapP h fun _ _ r=>r.kt k
theorem Lx{H:Hp}{a:Addr}{o:HO}(h:H a=some o):upd H a o=H:=by
 funext b;by_cases e:b=a
 ·subst e;rw[aa,h]
 ·rw[ai e]
def fG(x:Str):DT:=.k (.inr x)
def GJ(d:ao):DT:=.t [fG d.a,.t (d.sg.map fG),fG d.b]
theorem qA{x y:Str}(h:fG x=fG y):x=y:=by
 unfold fG at h;injection h with h;injection h
theorem jK:∀{x y:Zb},x.map fG=y.map fG->x=y
 |[],[],_=>rfl
 |[],_::_,h=>by cases h
 |_::_,[],h=>by cases h
 |a::x,b::y,h=>by
  rw[bF,bF]at h;injection h with e f;rw[qA e,jK f]
theorem KP{x y:ao}(h:GJ x=GJ y):x=y:=by
 unfold GJ at h;injection h with h;injection h with e h;injection h with a h;injection h with f h;injection a with a;cases x;cases y;simp only at *;rw[qA e,jK a,qA f]
theorem jv(a:Zb):DT.depths (a.map fG)=0:=by
 induction a with
 |nil=>rfl
 |cons x a e=>rw[bF];show max (DT.depth (fG x)) (DT.depths _)=0;rw[e];rfl
theorem Fc(d:ao):(GJ d).depth=2:=by
 show DT.depths [fG d.a,.t (d.sg.map fG),fG d.b]+1=2;show max (DT.depth (fG d.a)) (max (DT.depths (d.sg.map fG)+1) (max (DT.depth (fG d.b)) 0))+1=2;rw[jv]
 rfl
theorem GG(a:List ao):DT.depths (a.map GJ)<=8:=by
 induction a with
 |nil=>exact cL _
 |cons x e f=>rw[bF];show max (DT.depth (GJ x)) (DT.depths _)<=8;rw[Fc];omega
theorem pq{K:Za}{H:Hp}:∀a:List Str,DIns K H (a.map fG) (a.map V.str)
 |[]=>by show DIns K H [] [];unfold DIns;rfl
 |x::a=>by
  rw[bF,bF];unfold DIns;refine⟨_,_,rfl,?_,pq a⟩;unfold fG wB
  rfl
theorem tD{K:Za}{H:Hp}(x:Str):wB K H (fG x) (.str x):=by unfold fG wB;rfl
theorem bv{K:Za}{H:Hp}{s:Addr}{a:Zb}(h:bT K H s (a.map V.str)):wB K H (.t (a.map fG)) (.ref s):=by
 unfold wB;exact⟨s,_,rfl,h,pq _⟩
theorem jy.dIn{K:Za}{H:Hp}{t:Addr}{d:ao}(h:jy H t d):wB K H (GJ d) (.ref t):=by
 obtain⟨s,a,e⟩:=h;unfold GJ;unfold wB;refine⟨t,_,rfl,bT.of a,?_⟩;unfold DIns;refine⟨_,_,rfl,tD _,?_⟩;unfold DIns;refine⟨_,_,rfl,bv (bT.of e),?_⟩;unfold DIns;refine⟨_,_,rfl,tD _,?_⟩;unfold DIns
 rfl
theorem fP.dIns{K:Za}{H:Hp}{a:Ze}{e:List ao}(h:fP H a e):DIns K H (e.map GJ) (a.map V.ref):=by
 induction h with
 |nil=>show DIns K H [] [];unfold DIns;rfl
 |cons r _ f =>
  rw[bF,bF];unfold DIns;exact⟨_,_,rfl,r.dIn,f⟩
theorem ET{d:ao}{a:List ao}:GJ d∈a.map GJ↔d∈a:=by
 constructor
 ·intro h;obtain⟨x,f,e⟩:=aV.mp h;rw[<-KP e];exact f
 ·exact lW
def Dq(ds:List ao)(d:ao):List ao:=if d∈ds then ds else ds++[d]
inductive vq (vs:List V)(H:Hp)(Q:VK)(E:XK):Prop
 |mk (l t:Addr) (ts:Ze) (ds:List ao) (d:ao):(vs=[.ref l,.ref t])->(H l=some (.lst (ts.map V.ref)))->(fP H ts ds)->(jy H t d)->(ds.length<=1000)->(∀ts':List Addr,fP H ts' (Dq ds d)->Q .non (upd H l (.lst (ts'.map V.ref))))->vq  vs H Q E
theorem LC{K:Za}{i:List V}{H:Hp}{Q:VK}{E:XK}(h:vq i H Q E):FF K (bq Q) (start G0 i) H:=by
 obtain⟨l,t,j,g,d,rfl,a,e,m,n,k⟩:=h;refine⟨_,rfl,_,rfl,GJ d,g.map GJ,l,_,m.dIn,rfl,.inl (ay.of a),e.dIns,by rw[Fc];decide,GG g,_,rfl,?_⟩;by_cases f:d∈g
 ·rw[if_pos rfl,zzr1 (ET.mpr f)];refine bt ?_;have:=k j (by unfold Dq;rw[if_pos f];exact e);rw[Lx a]at this;exact this
 ·rw[if_pos rfl,zzr0 (fun z=>f (ET.mp z))];refine bG ?_;refine⟨_,rfl,.inl ⟨rfl,_,ay.of a⟩,_,rfl,l,_,_,rfl,rfl,a,?_,?_⟩
  ·rw[ah,Paired.length e];exact ar n
  ·have:=k (j++[t]) (by unfold Dq;rw[if_neg f];exact d_ e m);rw[ax]at this;exact this
structure DI(R:ao->Prop)(H0:Hp)(p c l:Addr)(m:Nat)(H:Hp):Prop where
 pen:gP H p c
 ds:∃ts ds,H l=some (.lst (ts.map V.ref))/\fP H ts ds/\ds.Nodup/\(∀d∈ds,R d)/\ds.length<=m
 ex:bJ p H0 H
 fr:H0 l=none
 pl:p≠l
 cl:c≠l
section
variable{R:ao->Prop}{H0 H H':Hp}{p c l:Addr}{m:Nat}
theorem gP.lst{H:Hp}{p c:Addr}(h:gP H p c):∃e,H p=some (.lst e):=by
 obtain⟨a,r,g,f,_⟩:=h;exact⟨_,f⟩
theorem DI.took(h:DI R H0 p c l m H)(a:gP H' p c)(e:bJ p H H'):DI R H0 p c l m H':=by
 obtain⟨f,g,i,j,k⟩:=h.ds;obtain⟨o,n⟩:=h.pen.lst;exact⟨a,⟨f,g,e _ _ i h.pl.symm,j.kt (e.kt n),k⟩,h.ex.trans e,h.fr,h.pl,h.cl⟩
theorem DI.new(h:DI R H0 p c l m H){q:Addr}{o:HO}(a:H q=none):DI R H0 p c l m (upd H q o) :=
 h.took (h.pen.ex (ab.new a)) (bJ.new a)
theorem DI.up(h:DI R H0 p c l m H){n:Nat}(a:m<=n):DI R H0 p c l n H:=by
 obtain⟨e,f,g,i,j,k,o⟩:=h.ds;exact⟨h.pen,⟨e,f,g,i,j,k,aD o a⟩,h.ex,h.fr,h.pl,h.cl⟩
theorem DI.put(h:DI R H0 p c l m H){t:Addr}{d:ao}{Q:VK}{E:XK}(r:jy H t d)(s:R d)(u:m<=1000)(k:∀H',DI R H0 p c l (m+1) H'->Q .non H'):vq [.ref l,.ref t] H Q E:=by
 obtain⟨v,f,i,w,j,q,y⟩:=h.ds;refine⟨l,t,v,f,d,rfl,i,w,r,aD y u,fun g z=>k _ ⟨h.pen.upd h.pl h.cl,⟨g,Dq f d,aa,z.kt (dO i),?_,?_,?_⟩,?_,h.fr,h.pl,h.cl⟩⟩
 ·unfold Dq;split
  ·exact j
  ·next A =>
   rw[d7];refine⟨j,by simp,?_⟩;intro a B b C e;have:b=d:=by simpa using C
   subst this;exact A (e▸B)
 ·intro x hx;unfold Dq at hx;split at hx
  ·exact q x hx
  ·rcases bL.mp hx with hx|hx
   ·exact q x hx
   ·have:x=d:=by simpa using hx
    rw[this];exact s
 ·unfold Dq;split
  ·omega
  ·rw[aO];show f.length+1<=m+1;omega
 ·intro b o e n;rw[ai (ae e h.fr)];exact h.ex b o e n
end
theorem gP.ne_strs{H:Hp}{p c a:Addr}{g:Zb}(h:gP H p c)(f:H a=some (.lst (g.map V.str))):a≠p:=by
 intro e;obtain⟨x,y,j,i,_⟩:=h;rw[e,i]at f;injection f with f;injection f with f;cases g with
 |nil=>cases f
 |cons w g=>injection f with f;cases f
theorem uu{K:Za}{r:R2}(B:∀x y H Q,cM K x y H Q->r x y H Q){σ:L2.St}{H:Hp}{Q:VK}{p c a:Addr}{j:Nat}{e:Zb}(C:σ[0]?=some (some (.ref p)))(o:σ[j]?=some (some (.ref a)))(q:gP H p c)
  (g:H a=some (.lst (e.map V.str))) (h:e≠[]) (s:e.length<=1000) (k:∀w∈e,∀H',gP H' p c->bJ p H H'->Q (.str w) H') :
  ∃v,σ[j]?=some (some v)/\∃t,σ[0]?=some (some t)/\∃u,σ[j]?=some (some u)/\ie K [u] H fun y D=>fb [t,y] D (fun y E=>r v y E Q) E0:=by
 have I:0<e.length:=by cases e with|nil=>exact absurd rfl h|cons _ _=>simp
 have G:(V.int ((e.map V.str).length:Nat))=V.int (e.length:Nat):=by rw[ah]
 have i:=q.ne_strs g;have l:∀(x:Int) (H':Hp),0<=x->x<(e.length:Int)->gP H' p c->bJ p H H'->cM K (.ref a) (.int x) H' Q:=by
  intro x H' m z f ex;obtain⟨n,rfl⟩:=oI m;have A:n<e.length:=by omega
  exact⟨a,_,(n:Int),.str e[n],rfl,rfl,ay.of (ex _ _ g i),aN (by simp[A]),k _ (List.getElem_mem A) H' f ex⟩
 exact⟨_,o,_,C,_,o,.inl ⟨a,_,rfl,.inl (ay.of g),by rw[G];exact iP q (by omega) (by omega) fun x H' m z f ex=>B _ _ _ _ (l x H' m z f ex)⟩⟩
def Up(up:Bool)(J4:Zb)(a b:Str):Prop:=∃i j:Nat,J4[i]?=some a/\J4[j]?=some b/\(if up=true then i<j else j<i)
structure mT(J0 J2 J4:Zb)(up:Bool)(d:ao):Prop where
 a:d.a∈J4
 b:d.b∈J4
 sg:(∃w∈J0,d.sg=[("ask":Str),w])∨(∃w∈J2,d.sg=[("say":Str),w])∨(d.sg=[("still":Str)]/\Up up J4 d.a d.b)
def bx:List Str:=[("still":Str)]
structure Jx(J0 J2 J4:Zb)(d:ao):Prop where
 a:d.a∈J4
 b:d.b∈J4
 sg:(∃w∈J0,d.sg=[("ask":Str),w])∨(∃w∈J2,d.sg=[("say":Str),w])∨d.sg=bx
theorem mT.d{J0 e f:Zb}{up:Bool}{d:ao}(h:mT J0 e f up d):Jx J0 e f d:=⟨h.a,h.b,h.sg.imp id (Or.imp id And.left)⟩
inductive Reach(ds:List ao)(a:Str):Str->Prop
 |one {b:Str}(h:(⟨a,bx,b⟩:ao)∈ds):Reach ds a b
 |step {b c:Str}(r:Reach ds a b) (h:(⟨b,bx,c⟩:ao)∈ds):Reach ds a c
theorem EZ{e:Zb}(n:e.Nodup){i j:Nat}{a:Str}(o:e[i]?=some a)(p:e[j]?=some a):i=j:=by
 obtain⟨f,g⟩:=cj.mp o;obtain⟨k,l⟩:=cj.mp p;have m:=List.pairwise_iff_getElem.mp n;rcases Nat.lt_trichotomy i j with h|h|h
 ·exact absurd (g.trans l.symm) (m i j f k h)
 ·exact h
 ·exact absurd (l.trans g.symm) (m j i k f h)
theorem Up.trans{up:Bool}{e:Zb}(g:e.Nodup){a b c:Str}(l:Up up e a b)(m:Up up e b c):Up up e a c:=by
 obtain⟨i,j,n,o,h⟩:=l;obtain⟨r,k,p,q,f⟩:=m;have:=EZ g o p;subst this;refine⟨i,k,n,q,?_⟩;cases up
 ·simp at h f ⊢;omega
 ·simp at h f ⊢;omega
theorem Up.irr{up:Bool}{e:Zb}(f:e.Nodup){a:Str}(h:Up up e a a):False:=by
 obtain⟨i,j,g,k,h⟩:=h;have:=EZ f g k;subst this;cases up
 ·simp at h
 ·simp at h
theorem Hq{j k g:Zb}{i:List ao}{up:Bool}(l:g.Nodup)(m:∀d∈i,mT j k g up d){a b:Str}(h:Reach i a b):Up up g a b:=by
 have f:∀{a b:Str},(⟨a,bx,b⟩:ao)∈i->Up up g a b:=by
  intro a b h;rcases(m _ h).sg with⟨w,_,e⟩|⟨w,_,e⟩|⟨_,e⟩
  ·cases e
  ·cases e
  ·exact e
 induction h with
 |one h=>exact f h
 |step r h n=>exact n.trans l (f h)
inductive iA (vs:List V)(H:Hp)(Q:VK)(E:XK):Prop
 |mk (p c l1 l2 l3:Addr) (J0 J2 J4:Zb) (full:Int):(vs=[.ref p,.ref l1,.ref l2,.ref l3,.int full])->(gP H p c)->(H l1=some (.lst (J0.map V.str)))->(H l2=some (.lst (J2.map V.str)))->(H l3=some (.lst (J4.map V.str)))->(J0.length<=4)->(J2≠[])->(J2.length<=4)->(J4≠[])->(J4.length<=26)->(0<=full)->(full<=2)->(∀(l:Addr) (ts:Ze) (ds:List ao) (up:Bool) (H':Hp),H l=none->H' l=some (.lst (ts.map V.ref))->fP H' ts ds->ds.Nodup->(∀d∈ds,mT J0 J2 J4 up d)->ds.length<=600->gP H' p c->bJ p H H'->Q (.ref l) H')->iA  vs H Q E
theorem at4{x r:Int}(a:0<=x)(e:x<=2)(f:0<=r)(g:r<4):∃j:Int,AJ [V.int x,.int 1,.int 1,.int 2] r=some (.int j)/\0<=j/\j<=2:=by
 have:r=0∨r=1∨r=2∨r=3:=by omega
 rcases this with rfl|rfl|rfl|rfl
 ·exact⟨x,rfl,a,e⟩
 ·exact⟨1,rfl,by decide,by decide⟩
 ·exact⟨1,rfl,by decide,by decide⟩
 ·exact⟨2,rfl,by decide,by decide⟩
theorem GK(a:Zb)(k:Nat):gq (a.map V.str) (some (k:Int)) none=(a.drop k).map V.str:=by
 unfold gq;rw[HT.sIx_none,HT.sIx_nat,ah,uP (by rw[eF,ah];omega),yH];by_cases h:k<=a.length
 ·rw[uL h]
 ·rw[Nat.min_eq_right (by omega),rA (by simp),rA (by rw[ah];omega)]
theorem Az(a:Zb)(k:Nat):gq (a.map V.str) none (some (k:Int))=(a.take k).map V.str:=by
 unfold gq;rw[HT.sIx_none,HT.sIx_nat,ah,uS,Nat.sub_zero,yI,List.take_eq_take_iff,ah];omega
theorem Je{K:Za}{H:Hp}{a:Addr}{e:Zb}(h:ay K H a (e.map V.str)):wB K H (.s (e.map fG)) (.ref a):=by
 unfold wB;exact⟨a,_,rfl,h,pq _⟩
theorem KO{K:Za}{H:Hp}{a:Addr}(h:ay K H a []):wB K H (.s []) (.ref a):=by
 unfold wB;refine⟨a,_,rfl,h,?_⟩;unfold DIns
 rfl
inductive DdI(G:ao->Prop)(H:Hp)(p c l l1 l2 l3:Addr)(full dn:Int)(i:Nat)(σ:L2.St)(H':Hp):Prop
 |mk (a7 a8 a9 a10 a11 a12:Option V):σ=[some (.ref p),some (.ref l1),some (.ref l2),some (.ref l3),some (.int full),some (.ref l),some (.int dn),a7,a8,a9,a10,a11,a12]->DI G H p c l (11 * i) H'->DdI G H p c l l1 l2 l3 full dn i σ H'
theorem wY{K:Za}{vs:List V}{H:Hp}{Q:VK}{E:XK}(h:iA vs H Q E):rO K fb vq (bq Q) (start sJ vs) H:=by
 obtain⟨p,c,l1,l2,l3,J0,J2,J4,a,rfl,hp,h1,h2,h3,ha,b1,hs,a4,hr,f0,f2,k⟩:=h;have n1:=hp.ne_strs h1;have n2:=hp.ne_strs h2;have n3:=hp.ne_strs h3;refine⟨(by show 0<=aj;decide),fun l hl=>?_⟩;have a5:=hp.nep hl;have b2:=hp.nec hl;refine⟨_,rfl,iP (hp.ex (ab.new hl)) (by decide) (by decide) fun M H1 d0 d1 b3 a6=>?_⟩;generalize hG:mT J0 J2 J4 (decide (M=0))=G;have base:DI G H p c l 0 H1:=⟨b3,⟨[],[],a6 _ _ aa a5.symm,.nil,ml,by simp,cL _⟩,(bJ.new hl).trans a6,hl,a5,b2⟩;refine⟨_,rfl,l3,rfl,⟨_,ay.of (base.ex _ _ h3 n3)⟩,?_⟩;refine ky (xs:=J4.map V.str) (DdI G H p c l l1 l2 l3 a M)
  ⟨_,_,_,_,_,_,rfl,base⟩ (fun i σ H' _ zq=>by obtain⟨_,_,_,_,_,_,_,D⟩:=zq;exact ay.of (D.ex _ _ h3 n3)) ?_ ?_
 ·rintro i x σ H' t hi ⟨a7,a8,C,m,v,A,rfl,D⟩ ht;obtain⟨room,f,rfl⟩:∃room,J4[i]?=some room/\x=V.str room:=by
   rw[cC]at hi;cases q:J4[i]? with
   |none=>rw[q]at hi;cases hi
   |some r=>rw[q]at hi;exact⟨r,rfl,(f6 hi).symm⟩
  have c1:i<J4.length:=(cj.mp f).1;have N:room∈J4:=bQ f;refine⟨t,_,rfl,bT.of aa,rfl,_,_,rfl,_,_,rfl,rfl,?_⟩;have D1:=D.new ht (o:=.tup [.int i,.str room]);refine⟨(by show 4<=aj;decide),fun q hq=>⟨_,rfl,iP (D1.new hq).pen (by decide) (by decide) fun r H2 r0 r1 b4 ba=>?_⟩⟩;obtain⟨j,hj,j0,j2⟩:=at4 (x:=0) (by decide) (by decide) r0 r1;have D2:=(D1.new hq).took b4 ba;refine⟨q,_,_,_,rfl,rfl,ay.of (ba q _ aa (D1.pen.nep hq).symm),hj,j,rfl,by omega,by omega,?_⟩
  let b5:Nat->L2.St->Hp->Prop:=fun i' σ O=>JA fun(C m:Option V)=>σ=[some (.ref p),some (.ref l1),some (.ref l2),some (.ref l3),some (.int a),some (.ref l),some (.int M),some (.int i),some (.str room),C,m,v,A]/\DI G H p c l (11 * i+i') O
  refine jb (lo:=0) (n:=j.toNat) b5
   ⟨_,_,rfl,D2⟩ ?_ ?_
  ·rintro i' σ H3 I ⟨C,m,rfl,D3⟩;refine uu (fun _ _ _ _ h=>h) rfl rfl D3.pen (D3.ex _ _ h2 n2) b1 (by omega) fun w hw H4 b6 b7=>?_;have D4:=D3.took b6 b7;refine⟨(by show 2<=aj;decide),fun L g=>?_⟩;have D5:=D4.new g (o:=.tup [.str "say",.str w]);refine⟨_,rfl,_,rfl,_,rfl,uu (fun _ _ _ _ h=>h) rfl rfl D5.pen (D5.ex _ _ h3 n3) a4 (by omega) fun U J H6 b8 bc=>?_⟩;have D6:=D5.took b8 bc;refine⟨(by show 3<=aj;decide),fun dr u=>?_⟩;have D7:=D6.new u (o:=.tup [.str room,.ref L,.str U]);have bd:H6 L=some (.tup [.str "say",.str w]):=bc _ _ aa (D4.pen.nep g).symm;refine D7.put (d:=⟨room,["say",w],U⟩) ⟨L,aa,kp bd u⟩ ?_ (by omega) fun H8 Y=>⟨_,_,rfl,Y⟩;rw[<-hG];exact⟨N,J,.inr (.inl ⟨w,hw,rfl⟩)⟩
  rintro σ H3 ⟨C,m,rfl,bf⟩;have D3:DI G H p c l (11 * i+2) H3:=bf.up (by omega);clear bf;refine⟨_,rfl,l1,rfl,⟨_,ay.of (D3.ex _ _ h1 n1)⟩,?_⟩
  let b9:Nat->L2.St->Hp->Prop:=fun i' σ O=>JA fun(C v:Option V)=>σ=[some (.ref p),some (.ref l1),some (.ref l2),some (.ref l3),some (.int a),some (.ref l),some (.int M),some (.int i),some (.str room),C,m,v,A]/\DI G H p c l (11 * i+2+2 * i') O
  refine cN (xs:=J0.map V.str) b9
   ⟨_,_,rfl,D3⟩ (fun i σ H' _ zq=>by obtain⟨_,_,_,D⟩:=zq;exact ay.of (D.ex _ _ h1 n1)) ?_ ?_
  ·rintro i' x σ H4 I ⟨C,v,rfl,D4⟩;obtain⟨ask,an,rfl⟩:∃ask,J0[i']?=some ask/\x=V.str ask:=by
    rw[cC]at I;cases q:J0[i']? with
    |none=>rw[q]at I;cases I
    |some r=>rw[q]at I;exact⟨r,rfl,(f6 I).symm⟩
   have c2:i'<J0.length:=(cj.mp an).1;have cb:ask∈J0:=bQ an;refine⟨_,rfl,(by show 4<=aj;decide),fun q hq=>⟨_,rfl,iP (D4.new hq).pen (by decide) (by decide) fun r H5 r0 r1 cd bh=>?_⟩⟩;obtain⟨j,hj,j0,j2⟩:=at4 f0 f2 r0 r1;have D5:=(D4.new hq).took cd bh;refine⟨q,_,_,_,rfl,rfl,ay.of (bh q _ aa (D4.pen.nep hq).symm),hj,j,rfl,by omega,by omega,?_⟩
   let ce:Nat->L2.St->Hp->Prop:=fun bi σ O=>∃C:Option V,σ=[some (.ref p),some (.ref l1),some (.ref l2),some (.ref l3),some (.int a),some (.ref l),some (.int M),some (.int i),some (.str room),C,m,some (.str ask),A]/\DI G H p c l (11 * i+2+2 * i'+bi) O
   refine jb (lo:=0) (n:=j.toNat) ce
    ⟨_,rfl,D5⟩ ?_ ?_
   ·rintro bi σ H6 c0 ⟨C,rfl,D6⟩;refine⟨_,rfl,_,rfl,_,rfl,(by show 2<=aj;decide),fun L g=>?_⟩;have D7:=D6.new g (o:=.tup [.str "ask",.str ask]);refine uu (fun _ _ _ _ h=>h) rfl rfl D7.pen (D7.ex _ _ h3 n3) a4 (by omega) fun U J H8 ch bl=>?_;have Y:=D7.took ch bl;refine⟨(by show 3<=aj;decide),fun dr u=>?_⟩;have D9:=Y.new u (o:=.tup [.str room,.ref L,.str U]);have bn:H8 L=some (.tup [.str "ask",.str ask]):=bl _ _ aa (D6.pen.nep g).symm;refine D9.put (d:=⟨room,["ask",ask],U⟩) ⟨L,aa,kp bn u⟩ ?_ (by omega) fun H8 Y=>⟨_,rfl,Y⟩;rw[<-hG];exact⟨N,J,.inl ⟨ask,cb,rfl⟩⟩
   ·rintro σ H6 ⟨C,rfl,D6⟩;exact⟨_,_,rfl,D6.up (by omega)⟩
  rintro σ H4 ⟨C,v,rfl,bo⟩;have D4:DI G H p c l (11 * i+10) H4:=bo.up (by rw[ah];omega);clear bo;have B:∀(H9:Hp) (A:Option V),DI G H p c l (11 * i+11) H9->DdI G H p c l l1 l2 l3 a M (i+1) [some (.ref p),some (.ref l1),some (.ref l2),some (.ref l3),some (.int a),some (.ref l),some (.int M),some (.int i),some (.str room),C,m,v,A] H9:=fun H9 A D9=>⟨_,_,_,_,_,_,rfl,D9.up (by omega)⟩;refine⟨_,rfl,_,rfl,_,_,rfl,rfl,_,rfl,l3,_,rfl,ay.of (D4.ex _ _ h3 n3),fun q1 cl=>?_⟩;have D5:=D4.new cl (o:=.lst (gq (J4.map V.str) (some ((i:Int)+1)) none));refine⟨_,rfl,_,rfl,_,rfl,l3,_,rfl,ay.of (D5.ex _ _ h3 n3),fun q2 bz=>?_⟩;have e1:gq (J4.map V.str) (some ((i:Int)+1)) none=(J4.drop (i+1)).map V.str:=GK J4 (i+1);rw[Az];have D6:=D5.new bz (o:=.lst ((J4.take i).map V.str));refine⟨(by show 2<=aj;decide),fun q3 as=>?_⟩;have D7:=D6.new as (o:=.lst [.ref q1,.ref q2]);obtain⟨lt,q,hq,al,T⟩:∃(lt:Zb) (q:Addr),AJ [V.ref q1,.ref q2] M=some (.ref q) /\
    upd (upd (upd H4 q1 (.lst (gq (J4.map V.str) (some ((i:Int)+1)) none))) q2 (.lst ((J4.take i).map V.str))) q3 (.lst [.ref q1,.ref q2]) q=some (.lst (lt.map V.str))/\lt.length<=26 /\
    ∀w∈lt,w∈J4/\Up (decide (M=0)) J4 room w:=by
   have:M=0∨M=1:=by omega
   rcases this with rfl|rfl
   ·refine⟨J4.drop (i+1),q1,rfl,?_,by rw[eF];omega,fun w hw=>⟨yF hw,?_⟩⟩
    ·refine(kp (kp aa bz) as).trans ?_;rw[e1]
    ·obtain⟨n,hn⟩:=kK hw;rw[List.getElem?_drop]at hn;exact⟨i,i+1+n,f,hn,by rw[if_pos (by decide)];omega⟩
   ·refine⟨J4.take i,q2,rfl,?_,by rw[aA];omega,fun w hw=>⟨gQ hw,?_⟩⟩
    ·exact kp aa as
    ·obtain⟨n,hn⟩:=kK hw;have cm:n<i:=by
      have:=(cj.mp hn).1;rw[aA]at this;omega
     rw[List.getElem?_take_of_lt cm]at hn;exact⟨i,n,f,hn,by rw[if_neg (by decide)];omega⟩
  refine⟨_,rfl,q3,_,_,_,rfl,rfl,ay.of aa,hq,?_⟩;generalize upd (upd (upd H4 q1 (.lst (gq (J4.map V.str) (some ((i:Int)+1)) none))) q2 (.lst ((J4.take i).map V.str))) q3 (.lst [.ref q1,.ref q2])=H7 at D7 al ⊢;refine⟨_,rfl,(by show 0<=aj;decide),fun e he=>⟨.s (lt.map fG),.s [],Je (ay.of (kp al he)),KO (ay.of aa),?_,by decide,_,rfl,?_⟩⟩
  ·show DT.depths (lt.map fG)+1<=8;rw[jv];decide
  have Y:=D7.new he (o:=.lst []);by_cases hz:lt=[]
  ·have ez:(!decide (DT.s (lt.map fG)=DT.s []))=false:=by rw[hz,zzr1 (by rfl)];rfl
   rw[ez];exact bt (bt (B _ _ (Y.up (by omega))))
  ·have ez:(!decide (DT.s (lt.map fG)=DT.s []))=true:=by
    rw[zzr0 (fun z=>hz (jK (y:=[]) (by injection z)))];rfl
   rw[ez];refine bG ?_;refine⟨_,rfl,iP Y.pen (by decide) (by decide) fun r H9 r0 r1 co bI=>⟨rfl,_,rfl,?_⟩⟩;have D9:=Y.took co bI;refine mJ (fun _=>?_) (fun _=>B _ _ (D9.up (by omega)));refine⟨_,rfl,_,rfl,(by show 1<=aj;decide),fun L g=>?_⟩;have bS:=D9.new g (o:=.tup [.str "still"]);have aC:upd H9 L (.tup [.str "still"]) q=some (.lst (lt.map V.str)):=kp (bI _ _ (kp al he) (Y.pen.ne_strs (kp al he))) g;refine uu (fun _ _ _ _ h=>.inl h) rfl rfl bS.pen aC hz (by omega) fun U J cp bU ap=>?_;have cs:=bS.took bU ap;refine⟨(by show 3<=aj;decide),fun dr u=>?_⟩;have ct:=cs.new u (o:=.tup [.str room,.ref L,.str U]);have a0:cp L=some (.tup [.str "still"]):=ap _ _ aa (D9.pen.nep g).symm;refine ct.put (d:=⟨room,[("still":Str)],U⟩) ⟨L,aa,kp a0 u⟩ ?_ (by omega) fun c3 cv=>B _ _ cv;rw[<-hG];exact⟨N,(T.2 U J).1,.inr (.inr ⟨rfl,(T.2 U J).2⟩)⟩
 ·rintro σ H' ⟨a7,a8,C,m,v,A,rfl,D⟩;obtain⟨ts,ds,g1,g2,g3,g4,g5⟩:=D.ds;rw[ah]at g5;rw[<-hG]at g4;exact⟨_,rfl,k l ts ds _ H' hl g1 g2 g3 g4 (by omega) D.pen D.ex⟩
structure cK(J0 J2 J4:Zb)(ds:List ao):Prop where
 okA:nM J0
 okS:nM J2
 apart:∀w∈J2,w∉J0
 okR:nM J4
 asks0:J0≠[]
 says0:J2≠[]
 rooms0:J4≠[]
 asks4:J0.length<=4
 says4:J2.length<=4
 rooms26:J4.length<=150
 nodup:ds.Nodup
 good:∀d∈ds,Jx J0 J2 J4 d
 few:ds.length<=1000
 noround:∀r,¬Reach ds r r
structure h9(H:Hp)(t l1 l2 l3 l4:Addr)(ts:Ze)(J0 J2 J4:Zb)(ds:List ao):Prop where
 t:H t=some (.tup [.ref l1,.ref l2,.ref l3,.ref l4])
 a1:H l1=some (.lst (J0.map V.str))
 a2:H l2=some (.lst (J2.map V.str))
 a3:H l3=some (.lst (J4.map V.str))
 a4:H l4=some (.lst (ts.map V.ref))
 ds:fP H ts ds
theorem gP.ne_refs{H:Hp}{p c a:Addr}{g:Ze}(i:gP H p c)(f:H a=some (.lst (g.map V.ref))):a≠p:=by
 intro e;obtain⟨x,y,k,j,_⟩:=i;rw[e,j]at f;injection f with f;injection f with f;cases g with
 |nil=>cases f
 |cons w h =>
  injection f with _ f;cases h with
  |nil=>cases f
  |cons w h=>injection f with f;cases f
theorem h9.ex{H H':Hp}{p c t f g l3 i:Addr}{j:Ze}{k l m:Zb}{n:List ao}(h:h9 H t f g l3 i j k l m n)(a:gP H p c)(e:bJ p H H'):h9 H' t f g l3 i j k l m n:=by
 obtain⟨q,o⟩:=a.lst;exact⟨e.kt o _ _ h.t,e _ _ h.a1 (a.ne_strs h.a1),e _ _ h.a2 (a.ne_strs h.a2),e _ _ h.a3 (a.ne_strs h.a3),e _ _ h.a4 (a.ne_refs h.a4),h.ds.kt (e.kt o)⟩
theorem h9.same{H a:Hp}{t f g l3 i:Addr}{j:Ze}{k l m:Zb}{n:List ao}(h:h9 H t f g l3 i j k l m n)(e:ab H a):h9 a t f g l3 i j k l m n :=
 ⟨e _ _ h.t,e _ _ h.a1,e _ _ h.a2,e _ _ h.a3,e _ _ h.a4,h.ds.kt (ab.kt e)⟩
inductive qi (vs:List V)(H:Hp)(Q:VK)(E:XK):Prop
 |mk (p c:Addr) (most full:Int):(vs=[.ref p,.int most,.int full])->(gP H p c)->(0<most)->(most<=25)->(0<=full)->(full<=2)->(∀(t l1 l2 l3 l4:Addr) (ts:Ze) (J0 J2 J4:Zb) (ds:List ao) (H':Hp),h9 H' t l1 l2 l3 l4 ts J0 J2 J4 ds->cK J0 J2 J4 ds->J4.length<=most.toNat->ds.length<=600->gP H' p c->bJ p H H'->Q (.ref t) H')->qi  vs H Q E
theorem at6{r:Int}(a:0<=r)(e:r<6):∃n:Nat,AJ [V.int 0,.int 1,.int 1,.int 2,.int 2,.int 3] r=some (.int n)/\n<=3:=by
 have:r=0∨r=1∨r=2∨r=3∨r=4∨r=5:=by omega
 rcases this with rfl|rfl|rfl|rfl|rfl|rfl
 ·exact⟨0,rfl,by decide⟩
 ·exact⟨1,rfl,by decide⟩
 ·exact⟨1,rfl,by decide⟩
 ·exact⟨2,rfl,by decide⟩
 ·exact⟨2,rfl,by decide⟩
 ·exact⟨3,rfl,by decide⟩
theorem Jh{a:Zb}(e:a.length=8){n:Nat}(j:n<=3):gq (a.map V.str) (some 4) (some (5+(n:Int)))=((a.drop 4).take (1+n)).map V.str:=by
 unfold gq;have f:HT.sIx (a.map V.str).length 0 (some 4)=min 4 (a.map V.str).length:=HT.sIx_nat _ _ 4;have g:HT.sIx (a.map V.str).length (a.map V.str).length (some (5+(n:Int)))=min (5+n) (a.map V.str).length:=HT.sIx_nat _ _ (5+n);rw[f,g,ah,e,yI,yH];have h:min 4 8=4:=by decide
 have i:min (5+n) 8-4=1+n:=by omega
 rw[h,i]
theorem HK{K:Za}{vs:List V}{H:Hp}{Q:VK}{E:XK}(h:qi vs H Q E):Bq K iA qg fb zV (bq Q) (start CG vs) H:=by
 obtain⟨p,c,bU,an,rfl,hp,m0,m1,f0,f2,k⟩:=h;refine⟨_,rfl,p,c,rfl,hp,fun H1 a7 a8=>?_⟩;refine⟨_,rfl,p,c,8,rfl,a7,by decide,fun lw a H2 ok A fr hl B a9=>?_⟩;have e2:=a8.trans a9;have nw:=B.ne_strs hl;refine⟨_,rfl,(by show 6<=aj;decide),fun q f=>⟨_,rfl,iP (B.ex (ab.new f)) (by decide) (by decide) fun r C r0 r1 ba D=>?_⟩⟩;obtain⟨n,hn,n3⟩:=at6 r0 r1;have ap:C lw=some (.lst (a.map V.str)):=D _ _ (kp hl f) nw;refine⟨q,_,_,_,rfl,rfl,ay.of (D _ _ aa (B.nep f).symm),hn,_,_,rfl,rfl,_,rfl,lw,_,rfl,ay.of ap,fun g G=>?_⟩;have ea:gq (a.map V.str) none (some (1+(n:Int)))=(a.take (1+n)).map V.str:=Az a (1+n);rw[ea];have e3:bJ p H C:=e2.trans ((bJ.new f).trans D);have i:gP (upd C g (.lst ((a.take (1+n)).map V.str))) p c:=ba.ex (ab.new G);have e4:bJ p H (upd C g (.lst ((a.take (1+n)).map V.str))):=e3.trans (bJ.new G);have as:upd C g (.lst ((a.take (1+n)).map V.str)) lw=some (.lst (a.map V.str)):=kp ap G;have I:upd C g (.lst ((a.take (1+n)).map V.str)) g=some (.lst ((a.take (1+n)).map V.str)):=aa;generalize upd C g (.lst ((a.take (1+n)).map V.str))=H4 at i e4 as I ⊢;refine⟨_,rfl,_,rfl,(by show 6<=aj;decide),fun q f=>⟨_,rfl,iP (i.ex (ab.new f)) (by decide) (by decide) fun r u r0 r1 bc j=>?_⟩⟩;obtain⟨m,hm,m3⟩:=at6 r0 r1;have bd:u lw=some (.lst (a.map V.str)):=j _ _ (kp as f) nw;have bf:u g=some (.lst ((a.take (1+n)).map V.str)):=j _ _ (kp I f) (i.ne_strs I);refine⟨q,_,_,_,rfl,rfl,ay.of (j _ _ aa (i.nep f).symm),hm,_,_,rfl,rfl,_,rfl,lw,_,rfl,ay.of bd,fun v J=>?_⟩;rw[Jh A m3];have e5:bJ p H u:=e4.trans ((bJ.new f).trans j);have l:gP (upd u v (.lst (((a.drop 4).take (1+m)).map V.str))) p c:=bc.ex (ab.new J);have e6:bJ p H (upd u v (.lst (((a.drop 4).take (1+m)).map V.str))):=e5.trans (bJ.new J);have L:upd u v (.lst (((a.drop 4).take (1+m)).map V.str)) g=some (.lst ((a.take (1+n)).map V.str)):=kp bf J;have M:upd u v (.lst (((a.drop 4).take (1+m)).map V.str)) v=some (.lst (((a.drop 4).take (1+m)).map V.str)):=aa;generalize upd u v (.lst (((a.drop 4).take (1+m)).map V.str))=H6 at l e6 L M ⊢;refine⟨_,rfl,_,rfl,_,rfl,iP l m0 (by omega) fun r H7 r0 r1 N O=>?_⟩;obtain⟨rn,rfl⟩:=oI r0;have aC:=O _ _ L (l.ne_strs L);have a0:=O _ _ M (l.ne_strs M);refine⟨_,_,rfl,rfl,p,c,1+rn,rfl,N,by omega,fun l3 J4 H8 T x b1 e o U=>?_⟩;have Y:=U _ _ aC (N.ne_strs aC);have al:=U _ _ a0 (N.ne_strs a0);have a4:(a.drop 4).take (1+m)≠[]:=by
  intro z;have:=congrArg List.length z;rw[aA,eF,A]at this;simp at this
 have bh:a.take (1+n)≠[]:=by
  intro z;have:=congrArg List.length z;rw[aA,A]at this;simp at this
 have a5:J4≠[]:=by
  intro z;rw[z]at x;simp at x;omega
 refine⟨_,rfl,_,rfl,_,rfl,_,rfl,_,rfl,p,c,g,v,l3,_,_,J4,an,rfl,o,Y,al,e,by rw[aA];omega,a4,by rw[aA];omega,a5,by omega,f0,f2,fun l4 ts ds up H9 b2 a6 bi bl y bn bo s=>?_⟩;have bz:=s _ _ Y (o.ne_strs Y);have bI:=s _ _ al (o.ne_strs al);have bS:=s _ _ e (o.ne_strs e);refine⟨_,rfl,_,rfl,_,rfl,_,rfl,(by show 4<=aj;decide),fun t ht=>k t g v l3 l4 ts _ _ J4 ds _ ⟨aa,kp bz ht,kp bI ht,kp bS ht,kp a6 ht,bi.kt (ab.kt (ab.new ht))⟩ ?_ ?_ bn (bo.ex (ab.new ht)) ?_⟩
 ·refine⟨⟨?_,fun w h=>ok.2 w (gQ h)⟩,⟨?_,fun w h=>ok.2 w (yF (gQ h))⟩,?_,T,bh,a4,a5,by rw[aA];omega,by rw[aA];omega,by omega,bl,fun d hd=>(y d hd).d,by omega,fun r z=>(Hq T.1 y z).irr T.1⟩
  ·exact ok.1.sublist (List.take_sublist _ _)
  ·exact ok.1.sublist ((List.take_sublist _ _).trans (List.drop_sublist _ _))
  ·intro w h1 h2;have h3:w∈a.drop 4:=gQ h1;have h4:w∈a.take 4:=by
    have:a.take (1+n)=(a.take 4).take (1+n):=by rw[List.take_take];congr 1;omega
    rw[this]at h2;exact gQ h2
   have:=ok.1;rw[<-List.take_append_drop 4 a,d7]at this;exact this.2.2 w h4 w h3 rfl
 ·omega
 ·exact(((e6.trans O).trans U).trans s).trans (bJ.new ht)
theorem cE{a:Zb}{i:Nat}{x:V}(h:(a.map V.str)[i]?=some x):∃w,a[i]?=some w/\x=.str w:=by
 rw[cC]at h;cases q:a[i]? with
 |none=>rw[q]at h;cases h
 |some r=>rw[q]at h;exact⟨r,rfl,(f6 h).symm⟩
theorem take_snoc{α:Type}{a:List α}{i:Nat}{w:α}(h:a[i]?=some w):a.take (i+1)=a.take i++[w]:=by
 obtain⟨e,rfl⟩:=cj.mp h;rw[List.take_succ_eq_append_getElem e]
def qM(w:Str):Bool:=!decide (w=("":Str)) && (decide (w.length<=8) && w.cps.toList.all fun c=>decide (c∈("abcdefghijklmnopqrstuvwxyz":Str).cps.toList))
theorem sN.b{w:Str}(h:sN w):qM w=true:=by
 unfold qM;have a:¬(w=("":Str)):=fun e=>by
  have:=h.lo;rw[e]at this;exact absurd this (by decide +kernel)
 rw[zzr0 a,zzr1 h.hi,Bool.not_false,uI,uI,List.all_eq_true];intro c f;obtain⟨g,i⟩:=h.al c f;refine zzr1 ?_;have:=Fm (c-97) (by omega);have e:97+(c-97)=c:=by omega
 rw[e]at this;exact bQ this
inductive sp_is_name (vs:List V)(H:Hp)(Q:VK)(E:XK):Prop
 |mk (w:Str):(vs=[.str w])->(w.length<=1000)->(∀H',ab H H'->Q (.bl (qM w)) H')->sp_is_name  vs H Q E
theorem Dl{K:Za}{a:List V}{H:Hp}{Q:VK}{E:XK}(h:sp_is_name a H Q E):FJ K (bq Q) (start Hc a) H:=by
 obtain⟨w,rfl,s,k⟩:=h;refine⟨_,rfl,rfl,_,rfl,?_⟩;have t:(!decide (V.str w=V.str ("":Str)))=!decide (w=("":Str)):=by
  congr 1;by_cases e:w=("":Str)
  ·rw[zzr1 e,zzr1 (by rw[e])]
  ·rw[zzr0 e,zzr0 (fun z=>e (by injection z))]
 rw[t];refine mJ (fun m=>?_) (fun m=>?_)
 ·refine⟨_,rfl,.inr ⟨w,rfl,cW (ar s),_,_,rfl,rfl,_,rfl,?_⟩⟩;refine mJ (fun n=>?_) (fun n=>?_)
  ·refine⟨_,rfl,w,rfl,fun l r=>?_⟩
   let p:Nat->List V->Hp->Prop:=fun i a j=>a=((w.cps.toList.take i).map fun c=>V.bl (decide (c∈("abcdefghijklmnopqrstuvwxyz":Str).cps.toList)))/\ab H j/\j l=some (.lst a)
   refine Ji p
    ⟨rfl,ab.new r,aa⟩ (fun i a j _ h=>h.2.2) ?_ ?_
   ·rintro a j ⟨rfl,q,f⟩;refine⟨l,w.cps.toList.map fun c=>decide (c∈("abcdefghijklmnopqrstuvwxyz":Str).cps.toList),rfl,ay.of ?_,?_⟩
    ·rw[f,jR];have:w.cps.toList.take w.cps.size=w.cps.toList:=by
      rw[uP];simp
     rw[this]
     rfl
    ·have:=k j q;have g:decide (w.length<=8)=true:=zzr1 (by have:=of_decide_eq_true n;omega);unfold qM at this;rw[m,g,uI,uI]at this;rw[List.all_map];exact this
   ·rintro i a j c u v ⟨rfl,q,f⟩;refine gN (oS ?_);refine⟨_,rfl,c,_,rfl,rfl,f,?_,n5 v ⟨?_,?_,aa⟩⟩
    ·rw[ah,aA];have:w.length=w.cps.toList.length:=ga w;exact ar (by omega)
    ·rw[take_snoc (by rw[<-u];simp),ax]
     rfl
    ·intro b o e;rw[ai (ae e r)];exact q b o e
  ·have:=k H (ab.refl H);have g:decide (w.length<=8)=false:=zzr0 (fun z=>n (zzr1 (by omega)));unfold qM at this;rw[m,g,uI,Bool.false_and]at this;exact this
 ·have:=k H (ab.refl H);unfold qM at this;rw[Bool.eq_false_iff.mpr m,Bool.false_and]at this;exact this
def aZ(ws:Zb):List (ge×V):=ws.foldl (fun acc w=>eG acc (.inr w) (.bl true)) []
theorem eC(a:Zb)(w:Str):aZ (a++[w])=eG (aZ a) (.inr w) (.bl true):=by
 unfold aZ;rw[List.foldl_append]
 rfl
theorem BM{κ:Type}[DecidableEq κ](a:List (κ×V))(k:κ)(v:V):(eG a k v).length<=a.length+1:=by
 unfold eG;split
 ·rw[ah];omega
 ·rw[aO];exact aB _
theorem j9{α:Type}(P:List α->Prop)(f:P [])(g:∀a w,P a->P (a++[w]))(a:List α):P a:=by
 have:∀n (a:List α),a.length=n->P a:=by
  intro n
  induction n with
  |zero=>intro a h;rw[List.length_eq_zero_iff.mp h];exact f
  |succ n i =>
   intro a h;have e:a≠[]:=fun z=>by rw[z]at h;cases h
   rw[<-List.dropLast_concat_getLast e];exact g _ _ (i _ (by rw[List.length_dropLast,h];rfl))
 exact this _ a rfl
theorem k_(a:Zb):(aZ a).length<=a.length:=by
 refine j9 (fun a=>(aZ a).length<=a.length) (aB _) (fun a w h=>?_) a;show(aZ (a++[w])).length<=(a++[w]).length;rw[eC,aO];have:=BM (aZ a) (.inr w) (.bl true);show _<=a.length+1;omega
theorem vO(a:Zb)(x:Str):bu (aZ a) (.inr x)=if x∈a then some (.bl true)else none:=by
 refine j9 (fun a=>bu (aZ a) (.inr x)=if x∈a then some (.bl true)else none) rfl (fun a w h=>?_) a
 show bu (aZ (a++[w])) (.inr x)=_;rw[eC,jg,h];by_cases e:x=w
 ·subst e;rw[if_pos rfl,if_pos (by simp)]
 ·have f:¬((Sum.inr x:ge)=.inr w):=fun z=>e (by injection z);rw[if_neg f];by_cases m:x∈a
  ·rw[if_pos m,if_pos (dz _ m)]
  ·rw[if_neg m,if_neg (fun z=>by rcases bL.mp z with z|z;exact m z;exact e (by simpa using z))]
theorem fK(a:Zb)(x:Str):(bu (aZ a) (.inr x)).isSome=decide (x∈a):=by
 rw[vO];by_cases m:x∈a
 ·rw[if_pos m,zzr1 m];rfl
 ·rw[if_neg m,zzr0 m];rfl
inductive sp_as_keys(K:Za)(vs:List V)(H:Hp)(Q:VK)(E:XK):Prop
 |mk (l:Addr) (ws:Zb):(vs=[.ref l])->(ay K H l (ws.map V.str))->(ws.length<=1000)->(∀d,H d=none->Q (.ref d) (upd H d (.dK (aZ ws))))->sp_as_keys K vs H Q E
theorem Do{K:Za}{o:List V}{H:Hp}{Q:VK}{E:XK}(h:sp_as_keys K o H Q E):FK K (bq Q) (start Hd o) H:=by
 obtain⟨l,j,rfl,q,u,k⟩:=h;refine fun d p=>?_;have a:∀f,ay K (upd H d (.dK f)) l (j.map V.str):=fun f=>(ab.new p).seq q;refine⟨_,rfl,l,rfl,⟨_,a _⟩,?_⟩
 let n:Nat->L2.St->Hp->Prop:=fun i σ m=>∃x,σ=[some (.ref l),some (.ref d),x]/\m=upd H d (.dK (aZ (j.take i)))
 refine cN (xs:=j.map V.str) n ⟨_,rfl,rfl⟩ (fun i σ m _ r=>by obtain⟨_,_,e⟩:=r;exact by rw[e];exact a _) ?_ ?_
 ·rintro i x σ m s ⟨y,rfl,rfl⟩;obtain⟨w,t,rfl⟩:=cE s;have g:(aZ (j.take i)).length<aj:=ar (aD (k_ _) (by rw[aA];omega));refine⟨_,rfl,_,rfl,d,_,rfl,.inl ⟨_,.inr w,aa,rfl,g,rfl⟩,_,rfl,?_⟩;rw[uj,take_snoc t,eC]
 ·rintro σ m ⟨x,rfl,rfl⟩;rw[ah,bb];exact⟨_,rfl,k d p⟩
def IV(most:Nat):Nat->List Str->List Str->Option Nat
 |_,_,[]=>none
 |i,ahead,n::ns=>if i=most∨n∈ahead∨qM n=false then some i else IV most (i+1) (ahead++[n]) ns
def dq(names:Zb)(most:Nat)(taken:Zb):Option Nat:=if names=[]then some 0 else IV most 0 taken names
def oV:Option Nat->V
 |none=>.non
 |some i=>.int i
inductive sp_first_wrong_name(K:Za)(vs:List V)(H:Hp)(Q:VK)(E:XK):Prop
 |mk (l t:Addr) (names taken:Zb) (most:Nat):(vs=[.ref l,.int most,.ref t])->(ay K H l (names.map V.str))->(ay K H t (taken.map V.str))->(names.length+taken.length<=1000)->((∀w∈names,w.length<=1000))->(∀H',ab H H'->Q (oV (dq names most taken)) H')->sp_first_wrong_name K vs H Q E
theorem sE{K:Za}{H:Hp}{Q:VK}{E:XK}{l:Addr}{ws:Zb}(a:ay K H l (ws.map V.str))(e:ws.length<=1000)(k:∀d,H d=none->Q (.ref d) (upd H d (.dK (aZ ws)))):sp_as_keys K [.ref l] H Q E:=by
 exact⟨l,ws,rfl,a,e,k⟩
theorem Gz{H:Hp}{Q:VK}{E:XK}{w:Str}(e:w.length<=1000)(k:∀a,ab H a->Q (.bl (qM w)) a):sp_is_name [.str w] H Q E:=by
 exact⟨w,rfl,e,k⟩
theorem nY{K:Za}{N:List V}{H:Hp}{Q:VK}{E:XK}(h:sp_first_wrong_name K N H Q E):oT K sp_is_name (sp_as_keys K) (bq Q) (start pE N) H:=by
 obtain⟨l,t,names,taken,a,rfl,A,Y,hz,hw,k⟩:=h;refine⟨_,rfl,.inl ⟨l,_,rfl,.inl A,rfl,_,rfl,?_⟩⟩;by_cases B:names=[]
 ·subst B;refine bG ?_;have:=k H (ab.refl H);exact this
 have e0:decide (V.int ((names.map V.str).length:Nat)=V.int 0)=false:=zzr0 (fun z=>B (by
  injection z with z;rw[ah]at z;exact List.length_eq_zero_iff.mp (by omega)))
 rw[e0];refine bt ?_;have s:∀H',ab H H'->Q (oV (IV a 0 taken names)) H':=by
  unfold dq at k;rw[if_neg B]at k;exact k
 refine⟨_,rfl,sE Y (by omega) fun d C=>?_⟩;refine⟨_,rfl,l,rfl,⟨_,(ab.new C).seq A⟩,?_⟩
 let D:Nat->L2.St->Hp->Prop:=fun i σ H'=>∃x y,σ=[some (.ref l),some (.int a),some (.ref t),some (.ref d),x,y]/\ab H H'/\H' d=some (.dK (aZ (taken++names.take i)))/\IV a i (taken++names.take i) (names.drop i)=IV a 0 taken names
 refine ky (xs:=names.map V.str) D
  ⟨_,_,rfl,ab.new C,by rw[uH,eZ];exact aa,by rw[uH,eZ,uS]⟩ (fun i σ H' _ zq=>by obtain⟨_,_,_,p,_⟩:=zq;exact p.seq A) ?_ ?_
 ·rintro i x σ H' q hi ⟨x4,x5,rfl,p,G,j⟩ O;obtain⟨w,f,rfl⟩:=cE hi;have I:i<names.length:=(cj.mp f).1;have ed:names.drop i=w::names.drop (i+1):=by
   rw[l6 I];congr 1;exact(cj.mp f).2
  rw[ed]at j;have m:upd H' q (.tup [.int i,.str w]) d=some (.dK (aZ (taken++names.take i))):=kp G O;have g:ab H (upd H' q (.tup [.int i,.str w])):=p.trans (ab.new O);have J:w.length<=1000:=hw w (bQ f);refine⟨q,_,rfl,bT.of aa,rfl,_,_,rfl,_,_,rfl,rfl,?_⟩;generalize upd H' q (.tup [.int i,.str w])=T at m g ⊢;refine⟨_,rfl,_,rfl,rfl,_,rfl,?_⟩;by_cases u:i=a
  ·have L:decide (V.int (i:Nat)=V.int (a:Nat))=true:=zzr1 (by rw[u]);rw[L];refine bG (bG ?_);refine⟨_,rfl,?_⟩;have:=s T g;rw[<-j]at this;unfold IV at this;rw[if_pos (.inl u)]at this;exact this
  have L:decide (V.int (i:Nat)=V.int (a:Nat))=false:=zzr0 (fun z=>u (by injection z with z;omega));rw[L];refine bt ?_;refine⟨_,rfl,_,rfl,d,_,rfl,.inl ⟨_,.inr w,.inl m,rfl,rfl⟩,_,rfl,?_⟩;rw[fK];by_cases v:w∈taken++names.take i
  ·rw[zzr1 v];refine bG (bG ?_);refine⟨_,rfl,?_⟩;have:=s T g;rw[<-j]at this;unfold IV at this;rw[if_pos (.inr (.inl v))]at this;exact this
  rw[zzr0 v];refine bt ?_;refine⟨_,rfl,Gz J fun H3 n=>⟨_,rfl,?_⟩⟩;have M:=n _ _ m;cases U:qM w with
  |false =>
   refine bG ?_;refine⟨_,rfl,?_⟩;have:=s H3 (g.trans n);rw[<-j]at this;unfold IV at this;rw[if_pos (.inr (.inr U))]at this;exact this
  |true =>
   refine bt ?_;have r:(aZ (taken++names.take i)).length<aj:=ar (aD (k_ _) (by rw[aO,aA];omega));refine⟨_,rfl,_,rfl,d,_,rfl,.inl ⟨_,.inr w,M,rfl,r,rfl⟩,_,_,rfl,?_,?_,?_⟩
   ·intro b o e;rw[ai (ae e C)];exact n _ _ (g _ _ e)
   ·rw[aa,take_snoc f,<-fS,eC]
   ·rw[<-j,take_snoc f,<-fS]
    conv=>rhs;unfold IV
    rw[if_neg];rintro(z|z|z)
    ·exact u z
    ·exact v z
    ·rw[U]at z;cases z
 ·rintro σ H' ⟨x,y,rfl,p,_,j⟩;rw[ah,oH]at j;have:=s H' p;rw[<-j]at this;exact this
theorem Ce{a:Nat}:∀(e ahead:Zb) (i:Nat),i+e.length<=a->(ahead++e).Nodup->(∀w∈e,sN w)->IV a i ahead e=none
 |[],_,_,_,_,_=>rfl
 |n::e,ahead,i,h,f,g=>by
  rw[gC]at h;unfold IV;rw[if_neg]
  ·refine Ce e (ahead++[n]) (i+1) (by omega) (by rw[fS];exact f) fun w j=>g w (dY _ j)
  ·rintro(z|z|z)
   ·omega
   ·rw[d7]at f;exact f.2.2 n z n (dQ) rfl
   ·rw[(g n dQ).b]at z;cases z
theorem iQ{a:Nat}{e taken:Zb}(f:e≠[])(i:e.length<=a)(g:(taken++e).Nodup)(h:∀w∈e,sN w):dq e a taken=none:=by
 unfold dq;rw[if_neg f];exact Ce e taken 0 (by omega) g h
theorem ic{n:Nat}(h:n<=9000):n<aj:=uV h (by decide)
def qv(x:Str):TK:=.k (some (.inr x))
def fX(sg:Zb):TK:=.t (sg.map qv)
def Fh(d:ao):TK:=.t [qv d.a,fX d.sg,qv d.b]
theorem ut{x y:Str}(h:qv x=qv y):x=y:=by
 unfold qv at h;injection h with h;injection h with h;injection h
theorem tf:∀{x y:Zb},x.map qv=y.map qv->x=y
 |[],[],_=>rfl
 |[],_::_,h=>by cases h
 |_::_,[],h=>by cases h
 |a::x,b::y,h=>by
  rw[bF,bF]at h;injection h with e f;rw[ut e,tf f]
theorem fL{x y:Zb}(h:fX x=fX y):x=y:=by
 unfold fX at h;injection h with h;exact tf h
theorem KN{x y:ao}(h:Fh x=Fh y):x=y:=by
 unfold Fh at h;injection h with h;injection h with a h;injection h with e h;injection h with f h;cases x;cases y;simp only at *;rw[ut a,fL e,ut f]
theorem CV(a:Zb):TK.depths (a.map qv)=0:=by
 induction a with
 |nil=>rfl
 |cons x a e=>rw[bF];show max (TK.depth (qv x)) (TK.depths _)=0;rw[e];rfl
theorem j8(a:Zb):(fX a).depth=1:=by
 show TK.depths (a.map qv)+1=1;rw[CV]
theorem xu(d:ao):(Fh d).depth=2:=by
 show max (TK.depth (qv d.a)) (max (TK.depth (fX d.sg)) (max (TK.depth (qv d.b)) 0))+1=2;rw[j8]
 rfl
theorem Ev{H:Hp}:∀a:List Str,TKAts H (a.map qv) (a.map V.str)
 |[]=>by show TKAts H [] [];unfold TKAts;rfl
 |x::a=>by
  rw[bF,bF];unfold TKAts;refine⟨_,_,rfl,?_,Ev a⟩;unfold qv eR
  rfl
theorem y_{H:Hp}(x:Str):eR H (qv x) (.str x):=by unfold qv eR;rfl
theorem SignAt.tk{H:Hp}{s:Addr}{a:Zb}(h:SignAt H s a):eR H (fX a) (.ref s):=by
 unfold fX eR;exact⟨s,_,rfl,h,Ev _⟩
theorem jy.tk{H:Hp}{t:Addr}{d:ao}(h:jy H t d):eR H (Fh d) (.ref t):=by
 obtain⟨s,a,e⟩:=h;unfold Fh eR;refine⟨t,_,rfl,a,?_⟩;unfold TKAts;refine⟨_,_,rfl,y_ _,?_⟩;unfold TKAts;refine⟨_,_,rfl,SignAt.tk e,?_⟩;unfold TKAts;refine⟨_,_,rfl,y_ _,?_⟩;unfold TKAts
 rfl
section
variable{κ:Type}[DecidableEq κ]
def lJ(ks:List κ):List (κ×V):=ks.foldl (fun acc k=>eG acc k (.bl true)) []
theorem pp(a:List κ)(w:κ):lJ (a++[w])=eG (lJ a) w (.bl true):=by
 unfold lJ;rw[List.foldl_append]
 rfl
theorem Gy(a:List κ):(lJ a).length<=a.length:=by
 refine j9 (fun a=>(lJ a).length<=a.length) (aB _) (fun a w h=>?_) a;show(lJ (a++[w])).length<=(a++[w]).length;rw[pp,aO];have:=BM (lJ a) w (.bl true);show _<=a.length+1;omega
theorem IK(a:List κ)(x:κ):(bu (lJ a) x).isSome=decide (x∈a):=by
 refine j9 (fun a=>(bu (lJ a) x).isSome=decide (x∈a)) rfl (fun a w h=>?_) a;show(bu (lJ (a++[w])) x).isSome=_;rw[pp,jg];by_cases e:x=w
 ·subst e;rw[if_pos rfl,zzr1 (by simp)]
  rfl
 ·rw[if_neg e,h];by_cases m:x∈a
  ·rw[zzr1 m,zzr1 (dz _ m)]
  ·rw[zzr0 m,zzr0 (fun z=>by rcases bL.mp z with z|z;exact m z;exact e (by simpa using z))]
end
theorem ES{d:ao}{a:List ao}:Fh d∈a.map Fh↔d∈a:=by
 constructor
 ·intro h;obtain⟨x,f,e⟩:=aV.mp h;rw[<-KN e];exact f
 ·exact lW
def pC(K:Za)(H:Hp)(v:V)(sg:Zb):Prop:=∃s,v=.ref s/\bT K H s (sg.map V.str)
theorem ab.sqT{K:Za}{H f:Hp}{a:Addr}{g:List V}(e:ab H f)(h:bT K H a g):bT K f a g:=by
 rcases h with(h|⟨o,h⟩)|h
 ·exact .inl (.inl (e _ _ h))
 ·exact .inl (.inr ⟨o,e _ _ h⟩)
 ·exact .inr h
theorem Signs.same{K:Za}{H f:Hp}(e:ab H f){xs:List V}{a:List (List Str)}(h:Paired (pC K H) xs a):Paired (pC K f) xs a :=
 Paired.mapP h fun _ _ ⟨s,g,i⟩=>⟨s,g,ab.sqT e i⟩
def fH(sg:Zb):DT:=.t (sg.map fG)
theorem qU{x y:Zb}(h:fH x=fH y):x=y:=by
 unfold fH at h;injection h with h;exact jK h
theorem bA(a:Zb):(fH a).depth=1:=by
 show DT.depths (a.map fG)+1=1;rw[jv]
theorem GF(a:List (List Str)):DT.depths (a.map fH)<=8:=by
 induction a with
 |nil=>exact cL _
 |cons x e f=>rw[bF];show max (DT.depth (fH x)) (DT.depths _)<=8;rw[bA];omega
theorem Signs.dIns{K:Za}{H:Hp}{xs:List V}{a:List (List Str)}(h:Paired (pC K H) xs a):DIns K H (a.map fH) xs:=by
 induction h with
 |nil=>show DIns K H [] [];unfold DIns;rfl
 |cons q _ f =>
  obtain⟨s,e,r⟩:=q;rw[bF];unfold DIns;refine⟨_,_,rfl,?_,f⟩;rw[e];exact bv r
theorem ER{d:Zb}{a:List (List Str)}:fH d∈a.map fH↔d∈a:=by
 constructor
 ·intro h;obtain⟨x,f,e⟩:=aV.mp h;rw[<-qU e];exact f
 ·exact lW
theorem Paired.app{α β:Type}{R:α->β->Prop}{a:List α}{b:List β}{c:List α}{d:List β}(g:Paired R a b)(h:Paired R c d):Paired R (a++c) (b++d):=by
 induction g with
 |nil=>exact h
 |cons r _ e=>exact .cons r e
def dW(w:Str):List Str:=[("ask":Str),w]
def cO(w:Str):List Str:=[("say":Str),w]
def kz(J0 J2:Zb):List (List Str):=J0.map dW++J2.map cO++[bx]
theorem vt{K:Za}{h:Str}{σ:L2.St}{H:Hp}{a l:Addr}{j:Zb}{Q:Hp->Prop}(B:H a=some (.lst (j.map V.str)))(A:H l=none)(M:j.length<=1000)
  (k:∀(xs:List V) (f:Hp),Paired (pC K f) xs (j.map fun w=>[h,w])->ab H f->f l=some (.lst xs)->Q f) :
  dJ 1 [] σ (Jw K a) U0 gj (bj (aT (tC (.str h)) V0)) H l Q:=by
 let r:Nat->List V->Hp->Prop:=fun i g f=>Paired (pC K f) g ((j.take i).map fun w=>[h,w])/\ab H f/\f l=some (.lst g)
 refine cF (xs:=j.map V.str) r
  ⟨.nil,ab.new A,aa⟩ (fun i g f _ C=>by obtain⟨_,D,E⟩:=C;exact⟨E,ay.of (D _ _ B)⟩) ?_ ?_
 ·rintro g f ⟨m,u,n⟩;rw[ah,bb]at m;exact k g f m u n
 ·rintro i g f x G I ⟨m,u,n⟩;obtain⟨w,J,rfl⟩:=cE G;refine gN (oS ?_);refine⟨_,rfl,(by show 2<=aj;decide),fun t p=>⟨kp n p,?_,n5 I ⟨?_,?_,aa⟩⟩⟩
  ·rw[Paired.length m,ah,aA];exact ar (by omega)
  ·rw[take_snoc J,ax];have q:gg (upd f t (.tup [.str h,.str w])) (upd (upd f t (.tup [.str h,.str w])) l (.lst (g++[.ref t]))):=dO (kp n p);have y:gg f (upd (upd f t (.tup [.str h,.str w])) l (.lst (g++[.ref t]))):=(ab.kt (ab.new p)).trans q;refine Paired.app (Paired.mapP m fun v N ⟨s,L,e2⟩=>⟨s,L,?_⟩) (.cons ⟨t,rfl,bT.of (q _ _ aa)⟩ .nil);rcases e2 with(e2|⟨o,e2⟩)|e2
   ·exact .inl (.inl (y _ _ e2))
   ·refine .inl (.inr ⟨o,?_⟩);rw[ai (fun z=>by rw[z,n]at e2;cases e2)];exact kp e2 p
   ·exact .inr e2
  ·intro b o e;rw[ai (ae e A)];exact kp (u _ _ e) p
inductive sp_door_signs(K:Za)(vs:List V)(H:Hp)(Q:VK)(E:XK):Prop
 |mk (l1 l2:Addr) (J0 J2:Zb):(vs=[.ref l1,.ref l2])->(H l1=some (.lst (J0.map V.str)))->(H l2=some (.lst (J2.map V.str)))->(J0.length<=100)->(J2.length<=100)->(∀(l:Addr) (xs:List V) (H':Hp),Paired (pC K H') xs (kz J0 J2)->ab H H'->H' l=some (.lst xs)->Q (.ref l) H')->sp_door_signs K vs H Q E
theorem wZ{K:Za}{st:Addr}(i:∀H,bT K H st (bx.map V.str)){n:List V}{H:Hp}{Q:VK}{E:XK}(h:sp_door_signs K n H Q E):zB K st (bq Q) (start AX n) H:=by
 obtain⟨y,z,J,L,rfl,o,p,A,B,k⟩:=h;refine⟨_,rfl,y,rfl,⟨_,ay.of o⟩,fun a C=>?_⟩;refine vt o C (by omega) fun f M q j D=>?_;refine⟨_,rfl,z,rfl,⟨_,ay.of (j _ _ p)⟩,fun b G=>?_⟩;refine vt (j _ _ p) G (by omega) fun g r s l I=>?_;have t:f.length<=100:=by rw[Paired.length q,ah];exact A
 have u:g.length<=100:=by rw[Paired.length s,ah];exact B
 refine⟨a,b,f,g,rfl,rfl,l _ _ D,I,cW (ar (by omega)),fun c v=>?_⟩;refine⟨(by show 1<=aj;decide),fun d m=>?_⟩;refine⟨c,d,_,_,rfl,rfl,kp aa m,aa,?_,fun e w=>k e _ _ ?_ ?_ aa⟩
 ·rw[aO];show _+1<=aj;exact cW (ar (by omega))
 ·have x:ab r (upd (upd (upd r c (.lst (f++g))) d (.lst [.ref st])) e (.lst (f++g++[.ref st]))):=((ab.new v).trans (ab.new m)).trans (ab.new w);exact Paired.app (Paired.app (Signs.same (l.trans x) q) (Signs.same x s)) (.cons ⟨st,rfl,i _⟩ .nil)
 ·exact(((j.trans l).trans (ab.new v)).trans (ab.new m)).trans (ab.new w)
def KH(J4:Zb)(sgs:List (List Str)):Nat->List ao->List ao->Option Nat
 |_,_,[]=>none
 |i,ahead,d::ds=>if i=2000∨d∈ahead∨d.a∉J4∨d.sg∉sgs∨d.b∉J4 then some i else KH J4 sgs (i+1) (ahead++[d]) ds
inductive sp_first_wrong_door(K:Za)(vs:List V)(H:Hp)(Q:VK)(E:XK):Prop
 |mk (l l3 sl:Addr) (ts:Ze) (ds:List ao) (J4:Zb) (xs:List V) (sgs:List (List Str)):(vs=[.ref l,.ref l3,.ref sl])->(H l=some (.lst (ts.map V.ref)))->(fP H ts ds)->(H l3=some (.lst (J4.map V.str)))->(J4.length<=1000)->(H sl=some (.lst xs))->(Paired (pC K H) xs sgs)->(ds.length<=9000)->(∀H',ab H H'->Q (oV (KH J4 sgs 0 [] ds)) H')->sp_first_wrong_door K vs H Q E
theorem bV{a:Ze}{i:Nat}{x:V}(h:(a.map V.ref)[i]?=some x):∃w,a[i]?=some w/\x=.ref w:=by
 rw[cC]at h;cases q:a[i]? with
 |none=>rw[q]at h;cases h
 |some r=>rw[q]at h;exact⟨r,rfl,(f6 h).symm⟩
theorem nZ{K:Za}{vs:List V}{H:Hp}{Q:VK}{E:XK}(h:sp_first_wrong_door K vs H Q E):oU K (sp_as_keys K) (bq Q) (start pF vs) H:=by
 obtain⟨l,l3,sl,ts,p,w,xs,m,rfl,hl,B,h3,hr,Y,al,hz,k⟩:=h;refine⟨_,rfl,sE (ay.of h3) hr fun d hd=>?_⟩;refine fun e he=>?_;have C:ab H (upd (upd H d (.dK (aZ w))) e (.dT [])):=(ab.new hd).trans (ab.new he);have an:H e=none:=(ab.new hd).free he;refine⟨_,rfl,l,rfl,⟨_,ay.of (C _ _ hl)⟩,?_⟩
 let ap:Nat->L2.St->Hp->Prop:=fun i σ H'=>∃x y,σ=[some (.ref l),some (.ref l3),some (.ref sl),some (.ref d),some (.ref e),x,y]/\ab H H'/\H' d=some (.dK (aZ w))/\H' e=some (.dT (lJ ((p.take i).map Fh)))/\KH w m i (p.take i) (p.drop i)=KH w m 0 [] p
 refine ky (xs:=ts.map V.ref) ap
  ⟨_,_,rfl,C,kp aa he,aa,rfl⟩ (fun i σ H' _ zq=>by obtain⟨_,_,_,D,_⟩:=zq;exact ay.of (D _ _ hl)) ?_ ?_
 ·rintro i x σ H' q hi ⟨x5,x6,rfl,D,as,aC,G⟩ hq;obtain⟨t,ht,rfl⟩:=bV hi;obtain⟨f,r,a0⟩:=Paired.getL B ht;have a4:i<p.length:=(cj.mp r).1;have ed:p.drop i=f::p.drop (i+1):=by
   rw[l6 a4];congr 1;exact(cj.mp r).2
  rw[ed]at G;have g:ab H (upd H' q (.tup [.int i,.ref t])):=D.trans (ab.new hq);have j:upd H' q (.tup [.int i,.ref t]) d=_:=kp as hq;have u:upd H' q (.tup [.int i,.ref t]) e=_:=kp aC hq;refine⟨q,_,rfl,bT.of aa,rfl,_,_,rfl,_,_,rfl,rfl,?_⟩;generalize upd H' q (.tup [.int i,.ref t])=H2 at j u g ⊢;have A:=a0.kt (ab.kt g);have a5:n6 K H2 (Fh f) (.ref t):=eR.isIn 8 (by rw[xu];decide) A.tk;have I:(Fh f).depth<=8:=by rw[xu];decide
  obtain⟨s,v,J⟩:=A;have n:(i=2000∨f∈p.take i∨f.a∉w∨f.sg∉m∨f.b∉w)->Q (.int i) H2:=by
   intro c;have:=k H2 g;rw[<-G]at this;unfold KH at this;rw[if_pos c]at this;exact this
  refine⟨_,rfl,rfl,_,rfl,?_⟩;by_cases M:i=2000
  ·have e1:decide (V.int (i:Nat)=V.int 2000)=true:=zzr1 (by rw[M];rfl);rw[e1];exact bG (bG ⟨_,rfl,n (.inl M)⟩)
  have e1:decide (V.int (i:Nat)=V.int 2000)=false:=zzr0 (fun z=>M (by injection z with z;omega));rw[e1];refine bt ?_;refine⟨_,rfl,_,rfl,e,_,rfl,.inr ⟨_,Fh f,t,.inl u,rfl,a5,I,rfl⟩,_,rfl,?_⟩;rw[IK];by_cases N:f∈p.take i
  ·rw[zzr1 (ES.mpr N)];exact bG ⟨_,rfl,n (.inr (.inl N))⟩
  rw[zzr0 (fun z=>N (ES.mp z))];refine bt ?_;refine⟨_,rfl,.inr (.inl ⟨t,_,0,_,rfl,rfl,bT.of v,rfl,_,rfl,d,_,rfl,.inl ⟨_,.inr f.a,.inl j,rfl,rfl⟩,_,rfl,?_⟩)⟩;rw[fK];by_cases O:f.a∈w;rotate_left
  ·rw[zzr0 O];exact bG (bG ⟨_,rfl,n (.inr (.inr (.inl O)))⟩)
  rw[zzr1 O];refine bt ?_;refine⟨_,rfl,.inr (.inl ⟨t,_,1,_,rfl,rfl,bT.of v,rfl,_,rfl,fH f.sg,m.map fH,sl,xs,bv (bT.of J),rfl,.inl (ay.of (g _ _ Y)),Signs.dIns (Signs.same g al),by rw[bA];decide,GF _,_,rfl,?_⟩)⟩;rw[if_pos rfl];by_cases T:f.sg∈m;rotate_left
  ·rw[zzr0 (fun z=>T (ER.mp z))];exact bG (bG ⟨_,rfl,n (.inr (.inr (.inr (.inl T))))⟩)
  rw[zzr1 (ER.mpr T)];refine bt ?_;refine⟨_,rfl,.inr (.inl ⟨t,_,2,_,rfl,rfl,bT.of v,rfl,_,rfl,d,_,rfl,.inl ⟨_,.inr f.b,.inl j,rfl,rfl⟩,_,rfl,?_⟩)⟩;rw[fK];by_cases U:f.b∈w;rotate_left
  ·rw[zzr0 U];exact bG ⟨_,rfl,n (.inr (.inr (.inr (.inr U))))⟩
  rw[zzr1 U];refine bt ?_;have L:(lJ ((p.take i).map Fh)).length<aj:=ic (aD (Gy _) (by rw[ah,aA];omega));refine⟨_,rfl,_,rfl,e,_,rfl,.inr ⟨_,Fh f,t,u,rfl,jy.tk ⟨s,v,J⟩,I,L,rfl⟩,_,_,rfl,?_,?_,?_,?_⟩
  ·intro b o q;rw[ai (ae q an)];exact g _ _ q
  ·rw[ai (fun z=>by rw[z,u]at j;cases j)];exact j
  ·rw[aa,take_snoc r,ax];exact congrArg (fun z=>some (HO.dT z)) (pp _ _).symm
  ·rw[<-G,take_snoc r]
   conv=>rhs;unfold KH
   rw[if_neg];rintro(z|z|z|z|z)
   ·exact M z
   ·exact N z
   ·exact z O
   ·exact z T
   ·exact z U
 ·rintro σ H' ⟨x,y,rfl,D,_,_,G⟩;have:=k H' D;rw[<-G,ah,Paired.length B,oH]at this;exact this
theorem Cf{g:Zb}{e:List (List Str)}:∀(f ahead:List ao) (i:Nat),i+f.length<=2000->(ahead++f).Nodup->(∀d∈f,d.a∈g/\d.sg∈e/\d.b∈g)->KH g e i ahead f=none
 |[],_,_,_,_,_=>rfl
 |n::k,ahead,i,l,h,j=>by
  rw[gC]at l;unfold KH;rw[if_neg]
  ·refine Cf k (ahead++[n]) (i+1) (by omega) (by rw[fS];exact h) fun w m=>j w (dY _ m)
  ·have:=j n dQ;rintro(z|z|z|z|z)
   ·omega
   ·rw[d7]at h;exact h.2.2 n z n (dQ) rfl
   ·exact z this.1
   ·exact z this.2.1
   ·exact z this.2.2
inductive sp_need_none (vs:List V)(H:Hp)(Q:VK)(E:XK):Prop
 |mk (x:V):(vs=[x,.non])->(Q .non H)->sp_need_none  vs H Q E
theorem zZ{K:Za}{a:List V}{H:Hp}{Q:VK}{E:XK}(h:sp_need_none a H Q E):Bm K (bq Q) (start CB a) H:=by
 obtain⟨x,rfl,k⟩:=h;refine⟨_,rfl,_,rfl,?_⟩;have e:(!decide (V.non=V.non))=false:=by rw[zzr1 rfl];rfl
 rw[e];exact bt k
structure Lists(H:Hp)(l1 l2 l3 l4:Addr)(ts:Ze)(J0 J2 J4:Zb)(ds:List ao):Prop where
 a1:H l1=some (.lst (J0.map V.str))
 a2:H l2=some (.lst (J2.map V.str))
 a3:H l3=some (.lst (J4.map V.str))
 a4:H l4=some (.lst (ts.map V.ref))
 ds:fP H ts ds
theorem Lists.same{H a:Hp}{f g l3 i:Addr}{j:Ze}{k l m:Zb}{n:List ao}(h:Lists H f g l3 i j k l m n)(e:ab H a):Lists a f g l3 i j k l m n :=
 ⟨e _ _ h.a1,e _ _ h.a2,e _ _ h.a3,e _ _ h.a4,h.ds.kt (ab.kt e)⟩
inductive sp_need_parts (vs:List V)(H:Hp)(Q:VK)(E:XK):Prop
 |mk (l1 l2 l3 l4:Addr) (ts:Ze) (J0 J2 J4:Zb) (ds:List ao):(vs=[.ref l1,.ref l2,.ref l3,.ref l4])->(Lists H l1 l2 l3 l4 ts J0 J2 J4 ds)->(cK J0 J2 J4 ds)->(∀H',ab H H'->Q .non H')->sp_need_parts  vs H Q E
theorem cK.signs{J0 i f:Zb}{j:List ao}(m:cK J0 i f j):∀d∈j,d.a∈f/\d.sg∈kz J0 i/\d.b∈f:=by
 intro d k;have g:=m.good d k;refine⟨g.a,?_,g.b⟩;unfold kz;rcases g.sg with⟨w,h,e⟩|⟨w,h,e⟩|e
 ·rw[e];exact dz _ (dz _ (aV.mpr ⟨w,h,rfl⟩))
 ·rw[e];exact dz _ (dP _ (aV.mpr ⟨w,h,rfl⟩))
 ·rw[e];exact dP _ (by simp[bx])
theorem si{a:Zb}(h:nM a):∀w∈a,w.length<=1000:=fun w e=>aD (h.2 w e).hi (by decide)
theorem wV{K:Za}{s:List V}{H:Hp}{Q:VK}{E:XK}(h:sp_need_parts s H Q E):zf K sp_need_none (sp_first_wrong_door K) (sp_door_signs K) (sp_first_wrong_name K) (bq Q) (start AQ s) H:=by
 obtain⟨l,t,u,x,y,f,g,j,n,rfl,L,m,k⟩:=h;have z:dq f 4 []=none:=iQ m.asks0 m.asks4 m.okA.1 m.okA.2;have A:dq g 4 f=none:=iQ m.says0 m.says4 (by
  rw[d7];exact⟨m.okA.1,m.okS.1,fun a B b C e=>m.apart b C (e▸B)⟩) m.okS.2
 have D:dq j 150 []=none:=iQ m.rooms0 (by have:=m.rooms26;omega) m.okR.1 m.okR.2;have G:KH j (kz f g) 0 [] n=none:=Cf n [] 0 (by have:=m.few;omega) m.nodup m.signs;have z1:=m.asks4;have z2:=m.says4;have z3:=m.rooms26;have z4:=m.few;refine⟨_,rfl,(by show 0<=aj;decide),fun e i=>⟨l,e,f,[],4,rfl,ay.of (kp L.a1 i),ay.of aa,by simp;omega,si m.okA,fun H1 I=>?_⟩⟩;rw[z];refine⟨_,rfl,?_⟩;have o:=(ab.new i).trans I;refine⟨_,rfl,_,rfl,t,l,g,f,4,rfl,ay.of (o _ _ L.a2),ay.of (o _ _ L.a1),by omega,si m.okS,fun H2 J=>?_⟩;rw[A];refine⟨_,rfl,?_⟩;have v:=o.trans J;refine⟨_,rfl,(by show 0<=aj;decide),fun e i=>⟨u,e,j,[],150,rfl,ay.of (kp (v _ _ L.a3) i),ay.of aa,by simp;omega,si m.okR,fun H3 M=>?_⟩⟩;rw[D];refine⟨_,rfl,?_⟩;have p:=(v.trans (ab.new i)).trans M;refine⟨_,rfl,_,rfl,_,rfl,_,rfl,l,t,f,g,rfl,p _ _ L.a1,p _ _ L.a2,by omega,by omega,fun N O H4 T U q=>?_⟩;have w:=p.trans U;have r:=L.same w;refine⟨x,u,N,y,n,j,O,kz f g,rfl,r.a4,r.ds,r.a3,by omega,q,T,by omega,fun Y s5=>?_⟩;rw[G];exact⟨_,rfl,k Y (w.trans s5)⟩
section
variable{κ ι:Type}[DecidableEq κ]{e:ι->κ}
def eP(e:ι->κ)(ps:List (ι×Addr)):List (κ×V):=ps.map fun x=>(e x.1,V.ref x.2)
theorem nE(inj:∀x y,e x=e y->x=y){i:ι}:∀{a:List (ι×Addr)},i∉a.map (·.1)->bu (eP e a) (e i)=none
 |[],_=>rfl
 |x::a,h=>by
  rw[bF,cn]at h;show bu ((e x.1,V.ref x.2)::eP e a) (e i)=none;rw[dE (fun z=>h (.inl (inj _ _ z).symm))];exact nE inj (fun z=>h (.inr z))
theorem fJ(inj:∀x y,e x=e y->x=y){i:ι}{a:Addr}:∀{f:List (ι×Addr)},(f.map (·.1)).Nodup->(i,a)∈f->bu (eP e f) (e i)=some (.ref a)
 |[],_,h=>by cases h
 |x::f,g,h=>by
  rw[bF,h_]at g;show bu ((e x.1,V.ref x.2)::eP e f) (e i)=_;rcases cn.mp h with h|h
  ·rw[<-h];exact ee rfl
  ·rw[dE (fun z=>g.1 (by rw[inj _ _ z];exact aV.mpr ⟨_,h,rfl⟩))];exact fJ inj g.2 h
theorem xK(f:List (ι×Addr))(i:ι)(a:Addr):eP e (f++[(i,a)])=eP e f++[(e i,.ref a)]:=by
 unfold eP;rw[ax]
 rfl
end
structure DL{ι:Type}(H0 H:Hp)(d:Addr)(ps:List (ι×Addr)):Prop where
 nd:(ps.map (·.1)).Nodup
 na:(ps.map (·.2)).Nodup
 fr:∀x∈ps,H0 x.2=none
 frd:H0 d=none
 ned:∀x∈ps,x.2≠d
 same:ab H0 H
theorem DL.snoc{ι:Type}{f H k:Hp}{d:Addr}{g:List (ι×Addr)}{i:ι}{a:Addr}(h:DL f H d g)(l:i∉g.map (·.1))(m:∀x∈g,x.2≠a)(n:f a=none)(o:a≠d)(s:ab f k):DL f k d (g++[(i,a)]):=by
 refine⟨?_,?_,?_,h.frd,?_,s⟩
 ·rw[ax,d7];refine⟨h.nd,by simp,fun x hx y j e=>?_⟩;have:y=i:=by simpa using j
  exact l (by rw[<-this,<-e];exact hx)
 ·rw[ax,d7];refine⟨h.na,by simp,fun x hx y j e=>?_⟩;have:y=a:=by simpa using j
  obtain⟨z,p,rfl⟩:=aV.mp hx;exact m z p (e.trans this)
 ·intro x hx;rcases bL.mp hx with hx|hx
  ·exact h.fr x hx
  ·have:x=(i,a):=by simpa using hx
   rw[this];exact n
 ·intro x hx;rcases bL.mp hx with hx|hx
  ·exact h.ned x hx
  ·have:x=(i,a):=by simpa using hx
   rw[this];exact o
theorem ID{ι:Type}:∀{a:List (ι×Addr)},(a.map (·.2)).Nodup->∀{x y:ι×Addr},x∈a->y∈a->x.2=y.2->x=y
 |[],_,x,_,h,_,_=>by cases h
 |p::a,f,x,y,g,i,e=>by
  rw[bF,h_]at f;rcases cn.mp g with hx'|hx'<;>rcases cn.mp i with hy'|hy'
  ·rw[hx',hy']
  ·exact absurd (aV.mpr ⟨y,hy',by rw[<-e,hx']⟩) f.1
  ·exact absurd (aV.mpr ⟨x,hx',by rw[e,hy']⟩) f.1
  ·exact ID f.2 hx' hy' e
theorem jL:∀x y:Str,(Sum.inr x:ge)=Sum.inr y->x=y:=fun x y h=>by injection h
def cR(ds:List ao)(r:Str):List ao:=ds.filter fun d=>decide (d.a=r)
inductive sp_doors_by_start (vs:List V)(H:Hp)(Q:VK)(E:XK):Prop
 |mk (l3 l4:Addr) (ts:Ze) (J4:Zb) (ds:List ao):(vs=[.ref l3,.ref l4])->(H l3=some (.lst (J4.map V.str)))->(H l4=some (.lst (ts.map V.ref)))->(fP H ts ds)->(J4.Nodup)->(J4.length<=1000)->(ds.length<=9000)->((∀d∈ds,d.a∈J4))->(∀(d:Addr) (ps:List (Str×Addr)) (H':Hp),ps.map (·.1)=J4->H' d=some (.dK (eP Sum.inr ps))->(∀x∈ps,∃us,H' x.2=some (.lst (us.map V.ref))/\fP H' us (cR ds x.1))->ab H H'->Q (.ref d) H')->sp_doors_by_start  vs H Q E
theorem qE{K:Za}{vs:List V}{H:Hp}{Q:VK}{E:XK}(h:sp_doors_by_start vs H Q E):rQ K (bq Q) (start sL vs) H:=by
 obtain⟨l3,l4,ts,J4,L,rfl,h3,h4,M,aC,hz,bf,a0,k⟩:=h;refine fun d hd=>?_;refine⟨_,rfl,l3,rfl,⟨_,ay.of (kp h3 hd)⟩,?_⟩
 let a4:Nat->L2.St->Hp->Prop:=fun i σ j=>∃x y,σ=[some (.ref l3),some (.ref l4),some (.ref d),x,y]/\∃l:List (Str×Addr),l.map (·.1)=J4.take i/\j d=some (.dK (eP Sum.inr l))/\DL H j d l/\∀x∈l,j x.2=some (.lst [])
 refine cN (xs:=J4.map V.str) a4
  ⟨_,_,rfl,[],rfl,aa,⟨by simp,by simp,by simp,hd,by simp,ab.new hd⟩,by simp⟩ (fun i σ j _ zq=>by obtain⟨_,_,_,_,_,_,D,_⟩:=zq;exact ay.of (D.same _ _ h3)) ?_ ?_
 ·rintro i x σ j hi ⟨x3,N,rfl,l,m,n,D,g⟩;obtain⟨w,hw,rfl⟩:=cE hi;have v:w∉l.map (·.1):=by
   rw[m];intro z;have:=aC;rw[<-List.take_append_drop (i+1) J4,take_snoc hw,d7]at this;have:=this.1;rw[d7]at this;exact this.2.2 w z w (by simp) rfl
  refine⟨(by show 0<=aj;decide),fun a G=>?_⟩;have O:(eP (Sum.inr:Str->ge) l).length<aj:=ar (by
   unfold eP;rw[ah,<-ah (f:=(·.1)) (as:=l),m,aA];omega)
  have a5:H a=none:=D.same.free G;have T:a≠d:=(ae n G).symm;have U:∀x∈l,x.2≠a:=fun x hx=>ae (g x hx) G;refine⟨_,rfl,_,rfl,d,_,rfl,.inl ⟨_,.inr w,kp n G,rfl,O,rfl⟩,_,_,rfl,l++[(w,a)],?_,?_,?_,?_⟩
  ·rw[ax,m,take_snoc hw];rfl
  ·rw[aa,jp _ (nE jL v),xK]
  ·refine D.snoc v U a5 T ?_;intro b o q;rw[ai (ae q hd)];exact kp (D.same _ _ q) G
  ·intro x hx;rcases bL.mp hx with hx|hx
   ·rw[ai (D.ned x hx)];exact kp (g x hx) G
   ·have:x=(w,a):=by simpa using hx
    rw[this,ai T];exact aa
 ·rintro σ H1 ⟨x3,N,rfl,l,m,a6,D1,g⟩;rw[ah,bb]at m;refine⟨_,rfl,l4,rfl,⟨_,ay.of (D1.same _ _ h4)⟩,?_⟩
  let a7:Nat->L2.St->Hp->Prop:=fun i σ j=>∃N,σ=[some (.ref l3),some (.ref l4),some (.ref d),x3,N]/\j d=some (.dK (eP Sum.inr l))/\DL H j d l/\∀x∈l,∃I,j x.2=some (.lst (I.map V.ref))/\fP j I (cR (L.take i) x.1)
  refine cN (xs:=ts.map V.ref) a7
   ⟨_,rfl,a6,D1,fun x hx=>⟨[],g x hx,.nil⟩⟩ (fun i σ j _ zq=>by obtain⟨_,_,_,D,_⟩:=zq;exact ay.of (D.same _ _ h4)) ?_ ?_
  ·rintro i x σ j hi ⟨N,rfl,n,D,g⟩;obtain⟨t,ht,rfl⟩:=bV hi;obtain⟨u,B,a8⟩:=Paired.getL M ht;have A:=a8.kt (ab.kt D.same);have Y:=A;obtain⟨s,a9,bh⟩:=A;have al:u.a∈l.map (·.1):=by rw[m];exact a0 u (bQ B)
   obtain⟨⟨r,a⟩,p,er⟩:=aV.mp al;obtain rfl:r=u.a:=er;obtain⟨I,C,an⟩:=g _ p;have bi:i<L.length:=(cj.mp B).1;have ba:I.length<=9000:=by
    rw[Paired.length an];refine aD (dk _ _) ?_;rw[aA];omega
   have KT:gg j (upd j a (.lst (I.map V.ref++[.ref t]))):=dO C;refine⟨_,rfl,_,rfl,.inr (.inl ⟨t,_,0,_,rfl,rfl,bT.of a9,rfl,d,.ref a,rfl,.inl ⟨_,.inr u.a,.inl n,rfl,(fJ jL D.nd p).symm⟩,.inl ⟨rfl,_,ay.of C⟩,_,rfl,a,_,_,rfl,rfl,C,?_,_,rfl,?_,?_,?_⟩)⟩
   ·rw[ah];exact ic ba
   ·rw[ai (D.ned _ p).symm];exact n
   ·refine⟨D.nd,D.na,D.fr,D.frd,D.ned,fun b o q=>?_⟩;rw[ai (ae q (D.fr _ p))];exact D.same _ _ q
   ·intro x hx;have ap:∀r',cR (L.take (i+1)) r'=cR (L.take i) r'++(if u.a=r' then[u]else[]):=by
     intro r';unfold cR;rw[take_snoc B,jd];congr 1;by_cases c:u.a=r'
     ·rw[if_pos c];simp[c]
     ·rw[if_neg c];simp[c]
    by_cases c:x.2=a
    ·have ex:=ID D.na hx p c;subst ex;refine⟨I++[t],?_,?_⟩
     ·show upd j a _ a=_;rw[aa,ax];rfl
     ·rw[ap];show fP _ _ (cR (L.take i) u.a++(if u.a=u.a then[u]else[]))
      rw[if_pos rfl];exact Paired.app (an.kt KT) (.cons (Y.kt KT) .nil)
    ·obtain⟨bc,h1,h2⟩:=g x hx;have bd:¬(u.a=x.1):=fun z=>by
      have e1:=fJ (e:=(Sum.inr:Str->ge)) jL D.nd p;have J:=fJ (e:=(Sum.inr:Str->ge)) (i:=x.1) (a:=x.2) jL D.nd hx;rw[<-z,e1]at J;injection J with J;injection J with J;exact c J.symm
     refine⟨bc,by rw[ai c];exact h1,?_⟩;rw[ap,if_neg bd,eZ];exact h2.kt KT
  ·rintro σ j ⟨N,rfl,n,D,g⟩;rw[ah,Paired.length M,bb]at g;exact⟨_,rfl,k d l j m n g D.same⟩
def mK(d:ao):Bool:=match d.sg with
 |s::_=>decide (s=("ask":Str))
 |[]=>false
inductive sp_has_asks_alone (vs:List V)(H:Hp)(Q:VK)(E:XK):Prop
 |mk (a:Addr) (us:Ze) (ds:List ao):(vs=[.ref a])->(H a=some (.lst (us.map V.ref)))->(fP H us ds)->(ds.length<=9000)->((∀d∈ds,d.sg≠[]))->(∀H',ab H H'->Q (.bl (ds.all mK)) H')->sp_has_asks_alone  vs H Q E
theorem qD{K:Za}{f:List V}{H:Hp}{Q:VK}{E:XK}(h:sp_has_asks_alone f H Q E):rP K (bq Q) (start sK f) H:=by
 obtain⟨a,O,L,rfl,M,v,hz,C,k⟩:=h;refine⟨_,rfl,a,rfl,⟨_,ay.of M⟩,fun l N=>?_⟩
 let D:Nat->List V->Hp->Prop:=fun i f n=>f=(L.take i).map (fun d=>V.bl (mK d))/\ab H n/\n l=some (.lst f)
 refine cF (xs:=O.map V.ref) D
  ⟨rfl,ab.new N,aa⟩ (fun i f n _ T=>by obtain⟨_,p,r⟩:=T;exact⟨r,ay.of (p _ _ M)⟩) ?_ ?_
 ·rintro f n ⟨rfl,p,r⟩;rw[ah,Paired.length v,bb]at r;refine⟨l,L.map mK,rfl,ay.of (by rw[r,jR];rfl),?_⟩;rw[List.all_map];exact k n p
 ·rintro i f n x U Y ⟨rfl,p,r⟩;obtain⟨t,ht,rfl⟩:=bV U;obtain⟨G,w,I⟩:=Paired.getL v ht;obtain⟨s,J,m⟩:=I.kt (ab.kt p);have A:=bQ w;obtain⟨u,g,B⟩:∃u g,G.sg=u::g:=by
   cases q:G.sg with
   |nil=>exact absurd q (C G A)
   |cons x y=>exact⟨x,y,rfl⟩
  unfold SignAt at m;rw[B]at m;refine gN (oS ?_);refine⟨_,rfl,.inr (.inl ⟨t,_,1,_,rfl,rfl,bT.of J,rfl,.inr (.inl ⟨s,_,0,.str u,rfl,rfl,bT.of m,aN (j:=0) rfl,rfl,r,?_,n5 Y ⟨?_,?_,aa⟩⟩)⟩)⟩
  ·rw[ah,aA];exact ic (by omega)
  ·rw[take_snoc w,ax];congr 1;show[V.bl _]=[V.bl _];congr 2;unfold mK;rw[B];show decide (V.str u=V.str _)=decide (u=_);by_cases c:u=("ask":Str)
   ·rw[zzr1 c,zzr1 (by rw[c])]
   ·rw[zzr0 c,zzr0 (fun z=>c (by injection z))]
  ·intro b o e;rw[ai (ae e N)];exact p _ _ e
def wA(x:Str×List Str):TK:=.t [qv x.1,fX x.2]
theorem iZ:∀x y:Str×List Str,wA x=wA y->x=y:=by
 intro x y h;unfold wA at h;injection h with h;injection h with a h;injection h with e h;cases x;cases y;simp only at *;rw[ut a,fL e]
theorem ny(x:Str×List Str):(wA x).depth<=8:=by
 show max (TK.depth (qv x.1)) (max (TK.depth (fX x.2)) 0)+1<=8;rw[j8];show max 0 (max 1 0)+1<=8
 decide
def bR(ds:List ao)(x:Str×List Str):List Str:=(ds.filter fun d=>decide (d.a=x.1/\d.sg=x.2)).map (·.b)
theorem Av(e:List ao)(d:ao)(x:Str×List Str):bR (e++[d]) x=bR e x++(if(d.a,d.sg)=x then[d.b]else[]):=by
 unfold bR;rw[jd,ax];congr 1;by_cases c:(d.a,d.sg)=x
 ·subst c;simp
 ·rw[if_neg c];have:¬(d.a=x.1/\d.sg=x.2):=fun z=>c (by cases x;simp only at z;rw[z.1,z.2]);simp[List.filter_cons];intro f g;exact this ⟨f,g⟩
theorem mL{e:List ao}{x:Str×List Str}(h:∀d∈e,(d.a,d.sg)≠x):bR e x=[]:=by
 unfold bR;rw[yD,List.filter_eq_nil_iff];intro d f;have:¬(d.a=x.1/\d.sg=x.2):=fun z=>h d f (by cases x;simp only at z;rw[z.1,z.2]);simp;intro g i;exact this ⟨g,i⟩
theorem iG{a:List ao}{x:Str×List Str}{b:Str}:b∈bR a x↔(⟨x.1,x.2,b⟩:ao)∈a:=by
 unfold bR;rw[aV];constructor
 ·rintro⟨d,e,rfl⟩;rw[fZ]at e;obtain⟨i,j⟩:=e;obtain⟨f,g⟩:=of_decide_eq_true j;cases d;simp only at f g;rw[<-f,<-g];exact i
 ·intro h;exact⟨_,fZ.mpr ⟨h,zzr1 ⟨rfl,rfl⟩⟩,rfl⟩
structure jN(H:Hp)(g:Addr)(ps:List ((Str×List Str)×Addr))(ds:List ao):Prop where
 nd:(ps.map (·.1)).Nodup
 g:H g=some (.dT (eP wA ps))
 ls:∀x∈ps,H x.2=some (.lst ((bR ds x.1).map V.str))
 all:∀d∈ds,(d.a,d.sg)∈ps.map (·.1)
theorem jN.same{H H':Hp}{g:Addr}{a:List ((Str×List Str)×Addr)}{e:List ao}(h:jN H g a e)(s:ab H H'):jN H' g a e:=⟨h.nd,s _ _ h.g,fun x f=>s _ _ (h.ls x f),h.all⟩
inductive qj (vs:List V)(H:Hp)(Q:VK)(E:XK):Prop
 |mk (l4:Addr) (ts:Ze) (ds:List ao):(vs=[.ref l4])->(H l4=some (.lst (ts.map V.ref)))->(fP H ts ds)->(ds.length<=9000)->(∀(g:Addr) (ps:List ((Str×List Str)×Addr)) (H':Hp),jN H' g ps ds->ab H H'->Q (.ref g) H')->qj  vs H Q E
theorem jn{K:Za}{vs:List V}{H:Hp}{Q:VK}{E:XK}(h:qj vs H Q E):jB K (bq Q) (start jD vs) H:=by
 obtain⟨l4,ts,T,rfl,h4,al,hz,k⟩:=h;refine fun g hg=>?_;refine⟨_,rfl,l4,rfl,⟨_,ay.of (kp h4 hg)⟩,?_⟩
 let a4:Nat->L2.St->Hp->Prop:=fun i σ u=>∃x y z,σ=[some (.ref l4),some (.ref g),x,y,z]/\∃p:List ((Str×List Str)×Addr),DL H u g p/\u g=some (.dT (eP wA p))/\p.length<=i/\(∀x∈p,u x.2=some (.lst ((bR (T.take i) x.1).map V.str)))/\∀d∈T.take i,(d.a,d.sg)∈p.map (·.1)
 refine cN (xs:=ts.map V.ref) a4
  ⟨_,_,_,rfl,[],⟨by simp,by simp,by simp,hg,by simp,ab.new hg⟩,aa,by simp,by simp,by simp⟩ (fun i σ u _ zq=>by obtain⟨_,_,_,_,_,D,_⟩:=zq;exact ay.of (D.same _ _ h4)) ?_ ?_
 ·rintro i x σ u hi ⟨x2,x3,x4,rfl,p,D,w,an,m,l⟩;obtain⟨t,ht,rfl⟩:=bV hi;obtain⟨f,C,a5⟩:=Paired.getL al ht;have bc:i<T.length:=(cj.mp C).1;obtain⟨s,a6,a7⟩:=a5.kt (ab.kt D.same);refine⟨t,_,rfl,bT.of a6,rfl,_,_,rfl,_,_,rfl,_,_,rfl,rfl,?_⟩;refine⟨_,rfl,.inr (.inr (.inl ⟨rfl,.inr ⟨_,w⟩⟩)),_,rfl,_,rfl,(by show 2<=aj;decide),fun kt ap=>⟨(by show 0<=aj;decide),fun nl U=>?_⟩⟩;have G:ab u (upd (upd u kt (.tup [.str f.a,.ref s])) nl (.lst [])):=(ab.new ap).trans (ab.new U);have L:upd (upd u kt (.tup [.str f.a,.ref s])) nl (.lst []) kt=some (.tup [.str f.a,.ref s]):=kp aa U;have M:upd (upd u kt (.tup [.str f.a,.ref s])) nl (.lst []) nl=some (.lst []):=aa;have j:u nl=none:=(ab.new ap).free U;generalize upd (upd u kt (.tup [.str f.a,.ref s])) nl (.lst [])=H2 at G L M ⊢;have a8:eR H2 (wA (f.a,f.sg)) (.ref kt):=by
   unfold wA eR;refine⟨kt,_,rfl,L,?_⟩;unfold TKAts;refine⟨_,_,rfl,y_ _,?_⟩;unfold TKAts;refine⟨_,_,rfl,SignAt.tk (G _ _ a7),?_⟩;unfold TKAts
   rfl
  have a9:(eP wA p).length<aj:=ic (by unfold eP;rw[ah];omega);have I:∀x,bR (T.take (i+1)) x=bR (T.take i) x++(if(f.a,f.sg)=x then[f.b]else[]):=fun x=>by rw[take_snoc C,Av]
  have ba:∀x,(bR (T.take i) x).length<=9000:=fun x=>by
   unfold bR;rw[ah];refine aD (dk _ _) ?_;rw[aA];omega
  refine⟨g,kt,_,wA (f.a,f.sg),.ref nl,rfl,rfl,G _ _ w,a8,ny _,a9,fun v J=>?_,fun J=>?_⟩
  ·-- there as
   have N:(f.a,f.sg)∈p.map (·.1):=by
    refine Classical.byContradiction fun z=>?_;rw[nE iZ z]at J;cases J
   obtain⟨⟨r,a⟩,n,er⟩:=aV.mp N;obtain rfl:r=(f.a,f.sg):=er;rw[fJ iZ D.nd n]at J;injection J with J;subst J;have aC:=G _ _ (m _ n);refine⟨.inl ⟨rfl,_,ay.of aC⟩,_,rfl,a,_,_,rfl,rfl,aC,by rw[ah];exact ic (ba _),_,_,_,rfl,p,⟨D.nd,D.na,D.fr,D.frd,D.ned,fun b o q=>?_⟩,?_,by omega,?_,?_⟩
   ·rw[ai (ae q (D.fr _ n))];exact G _ _ (D.same _ _ q)
   ·rw[ai (D.ned _ n).symm];exact G _ _ w
   ·intro x hx;by_cases c:x.2=a
    ·have ex:=ID D.na hx n c;subst ex;show upd H2 a _ a=_;rw[aa,I,if_pos rfl,ax];rfl
    ·have Y:¬((f.a,f.sg)=x.1):=fun z=>by
      have e1:=fJ (e:=wA) iZ D.nd n;have e2:=fJ (e:=wA) (i:=x.1) (a:=x.2) iZ D.nd hx;rw[<-z,e1]at e2;injection e2 with e2;injection e2 with e2;exact c e2.symm
     rw[ai c,I,if_neg Y,eZ];exact G _ _ (m x hx)
   ·intro d hd;rw[take_snoc C]at hd;rcases bL.mp hd with hd|hd
    ·exact l d hd
    ·have:d=f:=by simpa using hd
     rw[this];exact N
  ·-- a new list
   have A:(f.a,f.sg)∉p.map (·.1):=by
    intro z;obtain⟨⟨r,a⟩,n,er⟩:=aV.mp z;obtain rfl:r=(f.a,f.sg):=er;rw[fJ iZ D.nd n]at J;cases J
   have B:nl≠g:=(ae w j).symm;have O:upd H2 g (.dT (eP wA p++[(wA (f.a,f.sg),.ref nl)])) nl=some (.lst []):=by rw[ai B];exact M
   refine⟨.inl ⟨rfl,_,ay.of O⟩,_,rfl,nl,_,_,rfl,rfl,O,(by show 0<aj;decide),_,_,_,rfl,p++[((f.a,f.sg),nl)],?_,?_,?_,?_,?_⟩
   ·refine D.snoc A (fun x hx=>ae (m x hx) j) (D.same.free j) B ?_;intro b o q;rw[ai (ae q (D.same.free j)),ai (ae q hg)];exact G _ _ (D.same _ _ q)
   ·rw[ai B.symm,aa,xK]
   ·rw[aO];show _+1<=_;omega
   ·intro x hx;rcases bL.mp hx with hx|hx
    ·have Y:¬((f.a,f.sg)=x.1):=fun z=>A (by rw[z];exact aV.mpr ⟨x,hx,rfl⟩);rw[ai (ae (m x hx) j),ai (D.ned x hx),I,if_neg Y,eZ];exact G _ _ (m x hx)
    ·have:x=((f.a,f.sg),nl):=by simpa using hx
     subst this;have a0:bR (T.take i) (f.a,f.sg)=[]:=mL fun d hd z=>A (by rw[<-z];exact l d hd);show upd _ nl _ nl=_;rw[aa,I,if_pos rfl,a0]
     rfl
   ·intro d hd;rw[ax];rw[take_snoc C]at hd;rcases bL.mp hd with hd|hd
    ·exact dz _ (l d hd)
    ·have:d=f:=by simpa using hd
     rw[this];exact dP _ (by simp)
 ·rintro σ u ⟨x2,x3,x4,rfl,p,D,w,an,m,l⟩;rw[ah,Paired.length al,bb]at m l;exact⟨_,rfl,k g p u ⟨D.nd,w,m,l⟩ D.same⟩
theorem qK:∀{L R:Zb},L.Nodup->(∀y∈L,y∈R)->L.length<=R.length
 |[],_,_,_=>cL _
 |x::L,R,a,h=>by
  rw[h_]at a;have f:=h x dQ;have:=qK (L:=L) (R:=R.erase x) a.2 fun y g=>(List.mem_erase_of_ne (fun e:y=x=>a.1 (by rw[<-e];exact g))).mpr (h y (dY _ g));rw[List.length_erase_of_mem f]at this;have:0<R.length:=List.length_pos_of_mem f;rw[gC];omega
theorem Reach.in_{e:List ao}{a b:Str}{f:Zb}(g:∀d∈e,d.b∈f)(h:Reach e a b):b∈f:=by
 cases h with
 |one h=>exact g _ h
 |step r h=>exact g _ h
inductive zS (vs:List V)(H:Hp)(Q:VK)(E:XK):Prop
 |mk (g:Addr) (room:Str) (ps:List ((Str×List Str)×Addr)) (ds:List ao) (J4:Zb):(vs=[.ref g,.str room])->(jN H g ps ds)->((∀d∈ds,d.b∈J4))->(J4.length<=1000)->(∀(d:Addr) (L:Zb) (H':Hp),H' d=some (.dK (aZ L))->L.Nodup->(∀w,w∈L↔Reach ds room w)->H d=none->ab H H'->Q (.ref d) H')->zS  vs H Q E
structure Ml(H0 H:Hp)(ds:List ao)(room:Str)(d w:Addr)(L W:Zb)(open_:Str->Prop):Prop where
 d:H d=some (.dK (aZ L))
 w:H w=some (.lst (W.map V.str))
 same:ab H0 H
 nd:L.Nodup
 sound:∀y∈L,Reach ds room y
 wait:∀y∈W,y=room∨y∈L
 closed:∀y,(y=room∨y∈L)->y∉W->¬open_ y->∀c∈bR ds (y,bx),c∈L
theorem tZ{K:Za}{st:Addr}(bi:∀H,bT K H st (bx.map V.str)){vs:List V}{H:Hp}{Q:VK}{E:XK}(h:zS vs H Q E):vc K st (bq Q) (start wo vs) H:=by
 obtain⟨g,room,ps,ds,t,rfl,G,bn,hz,k⟩:=h;refine fun d hd=>?_;refine⟨_,rfl,(by show 1<=aj;decide),fun w hw=>?_⟩;have a0:H w=none:=(ab.new hd).free hw;have Y:d≠w:=ae aa hw;refine⟨fun m σ C=>∃(L W:Zb) (x y:Option V),σ=[some (.ref g),some (.str room),some (.ref d),some (.ref w),x,y]/\Ml H C ds room d w L W (fun _=>False)/\m=2 * (t.length-L.length)+W.length/\m<=2 * t.length+1,
  ⟨_,[],[room],_,_,rfl,⟨kp aa hw,aa,(ab.new hd).trans (ab.new hw),ml,by simp,by simp,?_⟩,rfl,aB _⟩,?_⟩
 ·intro y hy T;rcases hy with rfl|hy
  ·simp at T
  ·cases hy
 rintro m σ H1 ⟨L,W,x4,x5,rfl,D,rfl,hbound⟩;have U:∀{l:Zb},l.Nodup->(∀y∈l,Reach ds room y)->l.length<=t.length:=fun nd sd=>qK nd fun y hy=>(sd y hy).in_ bn;refine⟨_,rfl,.inl ⟨w,_,rfl,.inl (ay.of D.w),_,_,rfl,rfl,_,rfl,?_⟩⟩;refine mJ (fun B=>?_) (fun B=>?_)
 ·have a4:W≠[]:=by
   intro z;rw[z]at B;exact absurd (of_decide_eq_true B) (by decide)
  obtain⟨s,f,rfl⟩:∃s f,W=s++[f]:=⟨W.dropLast,W.getLast a4,(List.dropLast_concat_getLast a4).symm⟩;have al:f=room∨f∈L:=D.wait f (by simp);refine⟨fun σ' C=>∃(l n:Zb) (x y:Option V),σ'=[some (.ref g),some (.str room),some (.ref d),some (.ref w),x,y]/\Ml H C ds room d w l n (fun _=>False)/\2 * (t.length-l.length)+n.length<2 * (t.length-L.length)+(s++[f]).length,
   fun σ' C ⟨l,n,x,y,e,D',hm⟩=>⟨_,hm,l,n,x,y,e,D',rfl,by omega⟩,?_⟩
  have an:((s++[f]).map V.str)[((s++[f]).map V.str).length-1]?=some (.str f):=by simp
  have ap:((s++[f]).map V.str).dropLast=s.map V.str:=by rw[ax];simp
  refine⟨_,rfl,.inl ⟨rfl,_,ay.of D.w⟩,w,_,_,rfl,rfl,D.w,an,?_⟩;rw[ap];have a5:upd H1 w (.lst (s.map V.str)) d=some (.dK (aZ L)):=by rw[ai Y];exact D.d
  have a6:upd H1 w (.lst (s.map V.str)) w=some (.lst (s.map V.str)):=aa;have S1:ab H (upd H1 w (.lst (s.map V.str))):=fun b o q=>by rw[ai (ae q a0)];exact D.same _ _ q
  generalize upd H1 w (.lst (s.map V.str))=H2 at a5 a6 S1 ⊢;have G2:=G.same S1;refine⟨_,rfl,g,rfl,.inr ⟨_,.inl G2.g⟩,_,rfl,(by show 2<=aj;decide),fun kt a7=>⟨(by show 0<=aj;decide),fun et as=>⟨bu (eP wA ps) (wA (f,bx)),.inr ⟨_,wA (f,bx),kt,.inl ?_,rfl,?_,ny _,rfl⟩,?_⟩⟩⟩
  ·exact kp (kp G2.g a7) as
  ·unfold wA n6;refine⟨kt,_,rfl,bT.of (kp aa as),?_⟩;unfold TKIns;refine⟨_,_,rfl,?_,?_⟩
   ·unfold qv n6;rfl
   unfold TKIns;refine⟨_,_,rfl,?_,?_⟩
   ·unfold fX n6;refine⟨st,_,rfl,bi _,?_⟩;unfold bx;show TKIns K _ [qv _] [V.str _];unfold TKIns;refine⟨_,_,rfl,?_,?_⟩
    ·unfold qv n6;rfl
    unfold TKIns;rfl
   unfold TKIns;rfl
  have S3:ab H2 (upd (upd H2 kt (.tup [.str f,.ref st])) et (.tup [])):=(ab.new a7).trans (ab.new as);have I:upd (upd H2 kt (.tup [.str f,.ref st])) et (.tup []) et=some (.tup []):=aa;generalize upd (upd H2 kt (.tup [.str f,.ref st])) et (.tup [])=H3 at S3 I ⊢;have D3:Ml H H3 ds room d w L s (fun y=>y=f):=⟨S3 _ _ a5,S3 _ _ a6,S1.trans S3,D.nd,D.sound,fun y hy=>D.wait y (dz _ hy),fun y hy T ho=>D.closed y hy (fun z=>by rcases bL.mp z with z|z;exact T z;exact ho (by simpa using z)) (fun z=>z)⟩;have a8:2 * (t.length-L.length)+s.length<2 * (t.length-L.length)+(s++[f]).length:=by rw[aO];show _<_+(_+1);omega
  have a9:∀(H4:Hp) (l n:Zb) (x y:Option V),Ml H H4 ds room d w l n (fun y=>y=f)->(∀c∈bR ds (f,bx),c∈l)->2 * (t.length-l.length)+n.length<2 * (t.length-L.length)+(s++[f]).length ->
    ∃(l n:Zb) (x' y':Option V),[some (V.ref g),some (.str room),some (.ref d),some (.ref w),x,y]=[some (.ref g),some (.str room),some (.ref d),some (.ref w),x',y']/\Ml H H4 ds room d w l n (fun _=>False)/\2 * (t.length-l.length)+n.length<2 * (t.length-L.length)+(s++[f]).length:=by
   intro H4 l n x y p hc hm;refine⟨l,n,x,y,rfl,⟨p.d,p.w,p.same,p.nd,p.sound,p.wait,fun y hy T _=>?_⟩,hm⟩;by_cases e:y=f
   ·rw[e];exact hc
   ·exact p.closed y hy T e
  by_cases J:(f,bx)∈ps.map (·.1)
  ·obtain⟨⟨r,a⟩,ba,er⟩:=aV.mp J;obtain rfl:r=(f,bx):=er;rw[fJ iZ G.nd ba];have bc:=G.ls _ ba;refine⟨a,rfl,.inl ⟨⟨_,ay.of ((S1.trans S3) _ _ bc)⟩,?_⟩⟩
   let aC:Nat->L2.St->Hp->Prop:=fun j σ C=>Mi fun(l n:Zb) (y:Option V)=>Jr (σ=[some (.ref g),some (.str room),some (.ref d),some (.ref w),some (.str f),y]) (Ml H C ds room d w l n (fun y=>y=f)) ((f=room∨f∈l)) ((∀c∈(bR ds (f,bx)).take j,c∈l)) (2 * (t.length-l.length)+n.length<2 * (t.length-L.length)+(s++[f]).length)
   refine cN (xs:=(bR ds (f,bx)).map V.str) aC
    ⟨L,s,_,rfl,D3,al,by simp,a8⟩ (fun j σ C _ zq=>by obtain⟨_,_,_,_,D',_,_,_⟩:=zq;exact ay.of (D'.same _ _ bc)) ?_ ?_
   ·rintro j x σ H4 hj ⟨l,n,y,rfl,p,hh,hc,hm⟩;obtain⟨i,u,rfl⟩:=cE hj;have v:(⟨f,bx,i⟩:ao)∈ds:=iG.mp (bQ u);have O:Reach ds room i:=by
     rcases hh with hh|hh
     ·rw[hh]at v;exact .one v
     ·exact .step (p.sound _ hh) v
    have bo:=U p.nd p.sound;refine⟨_,rfl,_,rfl,d,_,rfl,.inl ⟨_,.inr i,.inl p.d,rfl,rfl⟩,_,rfl,?_⟩;rw[fK];by_cases c:i∈l
    ·rw[zzr1 c];refine bt ⟨l,n,_,rfl,p,hh,?_,hm⟩;intro c' A;rw[take_snoc u]at A;rcases bL.mp A with h|h
     ·exact hc c' h
     ·have:c'=i:=by simpa using h
      rw[this];exact c
    ·rw[zzr0 c];refine bG ?_;have bd:(l++[i]).Nodup:=by
      rw[d7];refine⟨p.nd,by simp,fun a ha b hb e=>?_⟩;have:b=i:=by simpa using hb
      exact c (by rw[<-this,<-e];exact ha)
     have bf:∀y∈l++[i],Reach ds room y:=by
      intro y hy;rcases bL.mp hy with hy|hy
      ·exact p.sound y hy
      ·have:y=i:=by simpa using hy
       rw[this];exact O
     have M:=U bd bf;rw[aO]at M;have bz:l.length+1<=t.length:=M;have bI:n.length<=9000:=by omega
     refine⟨_,rfl,_,rfl,d,_,rfl,.inl ⟨_,.inr i,p.d,rfl,ar (aD (k_ _) (by omega)),rfl⟩,?_⟩;have bh:upd H4 d (.dK (eG (aZ l) (.inr i) (.bl true))) w=some (.lst (n.map V.str)):=by rw[ai Y.symm];exact p.w
     refine⟨_,rfl,.inl ⟨rfl,_,ay.of bh⟩,_,rfl,w,_,_,rfl,rfl,bh,by rw[ah];exact ic bI,l++[i],n++[i],_,rfl,⟨?_,?_,?_,bd,bf,?_,?_⟩,?_,?_,?_⟩
     ·rw[ai Y,aa,eC]
     ·rw[aa,ax];rfl
     ·intro b o q;rw[ai (ae q a0),ai (ae q hd)];exact p.same _ _ q
     ·intro y hy;rcases bL.mp hy with hy|hy
      ·rcases p.wait y hy with h|h
       ·exact .inl h
       ·exact .inr (dz _ h)
      ·exact .inr (dP _ hy)
     ·intro y hy T ho c' A;have bS:y∉n:=fun z=>T (dz _ z);have bU:y≠i:=fun z=>T (dP _ (by simp[z]));refine dz _ (p.closed y ?_ bS ho c' A);rcases hy with hy|hy
      ·exact .inl hy
      ·rcases bL.mp hy with hy|hy
       ·exact .inr hy
       ·exact absurd (by simpa using hy) bU
     ·rcases hh with h|h
      ·exact .inl h
      ·exact .inr (dz _ h)
     ·intro c' A;rw[take_snoc u]at A;rcases bL.mp A with h|h
      ·exact dz _ (hc c' h)
      ·exact dP _ h
     ·rw[aO,aO];show 2 * (t.length-(l.length+1))+(n.length+1)<_;omega
   ·rintro σ H4 ⟨l,n,y,rfl,p,hh,hc,hm⟩;rw[ah,bb]at hc;exact a9 H4 l n _ _ p hc hm
  ·rw[nE iZ J];refine⟨et,rfl,.inr ⟨⟨_,bT.of I⟩,?_⟩⟩;have N:bR ds (f,bx)=[]:=mL fun x hx z=>J (by rw[<-z];exact G.all x hx)
   let aC:Nat->L2.St->Hp->Prop:=fun j σ C=>σ=[some (.ref g),some (.str room),some (.ref d),some (.ref w),some (.str f),x5]/\C=H3
   refine E_ (xs:=[]) aC ⟨rfl,rfl⟩ (fun j σ C _ zq=>by obtain⟨_,e⟩:=zq;exact by rw[e];exact bT.of I) (fun j x σ C hj=>by cases hj) ?_;rintro σ C ⟨rfl,rfl⟩;exact a9 _ L s _ _ D3 (by rw[N];simp) a8
 ·have N:W=[]:=by
   cases W with
   |nil=>rfl
   |cons a W=>exact absurd (zzr1 (by rw[ah,gC];omega)) B
  subst N;refine⟨_,rfl,k d L H1 D.d D.nd (fun w=>⟨D.sound w,fun hr=>?_⟩) hd D.same⟩
  induction hr with
  |one h=>exact D.closed room (.inl rfl) (by simp) (fun z=>z) _ (iG.mpr h)
  |step r h ih=>exact D.closed _ (.inr ih) (by simp) (fun z=>z) _ (iG.mpr h)
inductive sp_first_led_round (vs:List V)(H:Hp)(Q:VK)(E:XK):Prop
 |mk (l3 d:Addr) (J4:Zb) (ps:List (Str×Addr)):(vs=[.ref l3,.ref d])->(H l3=some (.lst (J4.map V.str)))->(H d=some (.dK (eP Sum.inr ps)))->(ps.map (·.1)=J4)->(J4.Nodup)->((∀x∈ps,∃L,H x.2=some (.dK (aZ L))/\x.1∉L))->(∀H',ab H H'->Q .non H')->sp_first_led_round  vs H Q E
theorem pi{K:Za}{p:List V}{H:Hp}{Q:VK}{E:XK}(h:sp_first_led_round p H Q E):pY K (bq Q) (start rc p) H:=by
 obtain⟨q,d,u,v,rfl,s,z,f,m,A,k⟩:=h;refine⟨_,rfl,q,rfl,⟨_,ay.of s⟩,?_⟩
 let n:Nat->L2.St->Hp->Prop:=fun i σ e=>∃x y,σ=[some (.ref q),some (.ref d),x,y]/\ab H e
 refine ky (xs:=u.map V.str) n ⟨_,_,rfl,ab.refl H⟩ (fun i σ e _ B=>by obtain⟨_,_,_,S⟩:=B;exact ay.of (S _ _ s)) ?_ ?_
 ·rintro i x σ e t C ⟨M,N,rfl,S⟩ D;obtain⟨w,G,rfl⟩:=cE C;refine⟨t,_,rfl,bT.of aa,rfl,_,_,rfl,_,_,rfl,rfl,?_⟩;have l:ab H (upd e t (.tup [.int i,.str w])):=S.trans (ab.new D);generalize upd e t (.tup [.int i,.str w])=O at l ⊢;have g:w∈v.map (·.1):=by rw[f];exact bQ G
  obtain⟨⟨r,a⟩,j,I⟩:=aV.mp g;obtain rfl:r=w:=I;obtain⟨L,o,J⟩:=A _ j;refine⟨_,rfl,_,rfl,_,rfl,d,.ref a,rfl,.inl ⟨_,.inr r,.inl (l _ _ z),rfl,(fJ jL (by rw[f];exact m) j).symm⟩,a,_,rfl,.inl ⟨_,.inr r,.inl (l _ _ o),rfl,rfl⟩,_,rfl,?_⟩;rw[fK,zzr0 J];exact bt ⟨_,_,rfl,l⟩
 ·rintro σ e ⟨x,y,rfl,S⟩;exact k e S
abbrev lk(f:Str)(fs:List (Str×V)):Option V:=fs.lookup f
def gU(ds:List ao)(r:Str):Bool:=(cR ds r).all mK
structure bY(C:Addr)(H:Hp)(x:Addr)(J0 J2 J4:Zb)(ds:List ao):Prop where
 at_:∃(dx:Addr) (fs:List (Str×V)) (o1 o2 o3 o4 lv qu sg sl:Addr) (ts:Ze) (lps:List (Str×Addr)) (gps:List ((Str×List Str)×Addr)) (sps:List (Str×Addr)),
  H x=some (.ins C dx fs)/\lk "is_quiet" fs=none/\lk "goals" fs=none/\lk "led_from" fs=none/\lk "rooms" fs=none /\
  lk "own_asks" fs=some (.ref o1)/\lk "own_says" fs=some (.ref o2)/\lk "own_rooms" fs=some (.ref o3)/\lk "own_doors" fs=some (.ref o4) /\
  lk "leaving" fs=some (.ref lv)/\lk "quiet" fs=some (.ref qu)/\lk "sign_goals" fs=some (.ref sg)/\lk "still_led" fs=some (.ref sl) /\
  Lists H o1 o2 o3 o4 ts J0 J2 J4 ds /\
  lps.map (·.1)=J4/\H lv=some (.dK (eP Sum.inr lps))/\(∀x∈lps,∃us,H x.2=some (.lst (us.map V.ref))/\fP H us (cR ds x.1)) /\
  H qu=some (.dK (aZ (J4.filter (gU ds))))/\jN H sg gps ds /\
  sps.map (·.1)=J4/\H sl=some (.dK (eP Sum.inr sps))/\(∀x∈sps,∃L,H x.2=some (.dK (aZ L))/\L.Nodup/\∀w,w∈L↔Reach ds x.1 w)
 ok:cK J0 J2 J4 ds
 more:∃(dx:Addr) (fs:List (Str×V)),H x=some (.ins C dx fs)/\lk "asks" fs=none/\lk "says" fs=none/\lk "doors" fs=none/\lk "doors_from" fs=none
theorem fC(f:Str)(v:V):∀fs:List (Str×V),(dA f v fs).length<=fs.length+1
 |[]=>aB _
 | (g,x)::r=>by
  unfold dA;split
  ·exact Ed _
  ·rw[gC,gC];have:=fC f v r;omega
theorem vJ:∀(a qs:List (Str×Addr)),((qs++a).map (·.1)).Nodup->jV (eP Sum.inr qs) (eP Sum.inr a)=eP Sum.inr (qs++a)
 |[],qs,_=>by rw[eZ];rfl
 |p::a,qs,g=>by
  show jV (eG (eP Sum.inr qs) (Sum.inr p.1) (.ref p.2)) (eP Sum.inr a)=_;have e:qs++p::a=(qs++[p])++a:=by simp
  rw[e]at g ⊢;have f:p.1∉qs.map (·.1):=by
   rw[ax,ax,d7]at g;have:=g.1;rw[d7]at this;intro z;exact this.2.2 _ z _ (by simp) rfl
  rw[jp _ (nE jL f)];have:=vJ a (qs++[p]) g;rw[<-this];have h:eP (Sum.inr:Str->ge) (qs++[p])=eP Sum.inr qs++[(Sum.inr p.1,V.ref p.2)]:=by
   unfold eP;rw[ax];rfl
  rw[h]
inductive uq(C:Addr)(vs:List V)(H:Hp)(Q:VK)(E:XK):Prop
 |mk (x dx l1 l2 l3 l4:Addr) (ts:Ze) (J0 J2 J4:Zb) (ds:List ao):(vs=[.ref x,.ref l1,.ref l2,.ref l3,.ref l4])->(H x=some (.ins C dx []))->(Lists H l1 l2 l3 l4 ts J0 J2 J4 ds)->(cK J0 J2 J4 ds)->(∀H',bY C H' x J0 J2 J4 ds->bJ x H H'->Q .non H')->uq C vs H Q E
theorem Lists.exI{H f:Hp}{x C r:Addr}{fs:List (Str×V)}{g i l3 j:Addr}{k:Ze}{l m n:Zb}{o:List ao}(h:Lists H g i l3 j k l m n o)(p:H x=some (.ins C r fs))(e:bJ x H f):Lists f g i l3 j k l m n o:=by
 have ne:∀{b:Addr}{q:List V},H b=some (.lst q)->b≠x:=fun a z=>by rw[z,p]at a;cases a
 exact⟨e _ _ h.a1 (ne h.a1),e _ _ h.a2 (ne h.a2),e _ _ h.a3 (ne h.a3),e _ _ h.a4 (ne h.a4),h.ds.kt fun b q a=>e _ _ a fun z=>by rw[z,p]at a;cases a⟩
theorem bJ.ktI{H f:Hp}{x C g:Addr}{fs:List (Str×V)}(e:bJ x H f)(h:H x=some (.ins C g fs)):gg H f:=fun b i a=>e _ _ a fun z=>by rw[z,h]at a;cases a
theorem bJ.neI{H:Hp}{x C e:Addr}{fs:List (Str×V)}(f:H x=some (.ins C e fs)){b:Addr}{g:List V}(a:H b=some (.lst g)):b≠x:=fun z=>by rw[z,f]at a;cases a
theorem IC{H:Hp}{x C f:Addr}{fs:List (Str×V)}(g:H x=some (.ins C f fs)){b:Addr}{a:List (ge×V)}(e:H b=some (.dK a)):b≠x:=fun z=>by rw[z,g]at e;cases e
theorem Lf{H:Hp}{x C f:Addr}{fs:List (Str×V)}(g:H x=some (.ins C f fs)){b:Addr}{a:List (TK×V)}(e:H b=some (.dT a)):b≠x:=fun z=>by rw[z,g]at e;cases e
structure MC(K:Za)(C:Addr):Prop where
 cls:Fu K C
 a1:eK K C "own_asks"
 a2:eK K C "own_says"
 a3:eK K C "own_rooms"
 a4:eK K C "own_doors"
 a5:eK K C "leaving"
 a6:eK K C "quiet"
 a7:eK K C "sign_goals"
 a8:eK K C "still_led"
theorem sr{H:Hp}{x C a:Addr}{fs:List (Str×V)}(f:Str)(y:V)(g:H x=some (.ins C a fs)):∃e,e=upd H x (.ins C a (dA f y fs))/\e x=some (.ins C a (dA f y fs))/\bJ x H e :=
 ⟨_,rfl,aa,bJ.upd _ _ _⟩
theorem cB{p:Str->Bool}{a:Zb}{i:Nat}{w:Str}(h:a[i]?=some w):(a.take (i+1)).filter p=(a.take i).filter p++(if p w=true then[w]else[]):=by
 rw[take_snoc h,jd];congr 1;by_cases c:p w=true
 ·rw[if_pos c];simp[c]
 ·rw[if_neg c];simp[c]
theorem DB(a:List ao)(r:Str):(cR a r).length<=a.length:=dk _ _
theorem cK.sg0{a f g:Zb}{ds:List ao}(m:cK a f g ds){r:Str}:∀d∈cR ds r,d.sg≠[]:=by
 intro d h;have:=m.good d (fZ.mp h).1;rcases this.sg with⟨w,_,e⟩|⟨w,_,e⟩|e<;>rw[e]<;>exact List.cons_ne_nil _ _
theorem Ki{K:Za}{C:Addr}(M:MC K C){B:List V}{H:Hp}{Q:VK}{E:XK}(h:uq C B H Q E):
  oZ K sp_need_none sp_first_led_round zS qj (sp_as_keys K) sp_has_asks_alone sp_doors_by_start sp_need_parts (bq Q) (start pI B) H:=by
 obtain⟨x,G,l1,l2,l3,l4,ts,J0,J2,I,ds,rfl,hx,L,m,k⟩:=h;have z3:=m.rooms26;have z4:=m.few;refine⟨_,rfl,_,rfl,_,rfl,_,rfl,l1,l2,l3,l4,ts,J0,J2,I,ds,rfl,L,m,fun H1 S1=>?_⟩;have a0:=S1 _ _ hx;have L1:=L.same S1;have E1:bJ x H H1:=ab.exB S1;refine⟨_,rfl,.inl ⟨l1,_,rfl,.inl (ay.of L1.a1),fun o1 a9=>⟨_,rfl,x,C,G,_,rfl,kp a0 a9,M.cls,M.a1,(by show 0<1000;decide),?_⟩⟩⟩;obtain⟨H2,e2,ba,F2⟩:=sr "own_asks" (.ref o1) (kp (x:=.lst (J0.map V.str)) a0 a9);rw[<-e2];have n1:o1≠x:=(ae a0 a9).symm;have f1:=F2 _ _ aa n1;have E2:bJ x H1 H2:=(bJ.new a9).trans F2;have b7:=L1.exI a0 E2;have dn:(dA ("own_asks":Str) (.ref o1) []).length<=1:=fC _ _ _;clear e2 F2;refine⟨_,rfl,.inl ⟨l2,_,rfl,.inl (ay.of b7.a2),fun o2 bc=>⟨_,rfl,x,C,G,_,rfl,kp ba bc,M.cls,M.a2,by omega,?_⟩⟩⟩;obtain⟨H3,e3,bd,F3⟩:=sr "own_says" (.ref o2) (kp (x:=.lst (J2.map V.str)) ba bc);rw[<-e3];have n2:o2≠x:=(ae ba bc).symm;have f2:=F3 _ _ aa n2;have E3:bJ x H2 H3:=(bJ.new bc).trans F3;have L3:=b7.exI ba E3;have dp:=fC ("own_says":Str) (.ref o2) (dA ("own_asks":Str) (.ref o1) []);clear e3 F3;refine⟨_,rfl,.inl ⟨l3,_,rfl,.inl (ay.of L3.a3),fun o3 bf=>⟨_,rfl,x,C,G,_,rfl,kp bd bf,M.cls,M.a3,by omega,?_⟩⟩⟩;obtain⟨H4,e4,bh,F4⟩:=sr "own_rooms" (.ref o3) (kp (x:=.lst (I.map V.str)) bd bf);rw[<-e4];have n3:o3≠x:=(ae bd bf).symm;have f3:=F4 _ _ aa n3;have E4:bJ x H3 H4:=(bJ.new bf).trans F4;have L4:=L3.exI bd E4;have dr:=fC ("own_rooms":Str) (.ref o3) (dA ("own_says":Str) (.ref o2) (dA ("own_asks":Str) (.ref o1) []));clear e4 F4;refine⟨_,rfl,.inl ⟨l4,_,rfl,.inl (ay.of L4.a4),fun o4 bi=>⟨_,rfl,x,C,G,_,rfl,kp bh bi,M.cls,M.a4,by omega,?_⟩⟩⟩;obtain⟨H5,e5,n,F5⟩:=sr "own_doors" (.ref o4) (kp (x:=.lst (ts.map V.ref)) bh bi);rw[<-e5];have n4:o4≠x:=(ae bh bi).symm;have f4:=F5 _ _ aa n4;have E5:bJ x H4 H5:=(bJ.new bi).trans F5;have L5:=L4.exI bh E5;generalize bS:dA ("own_doors":Str) (.ref o4) (dA ("own_rooms":Str) (.ref o3) (dA ("own_says":Str) (.ref o2) (dA ("own_asks":Str) (.ref o1) [])))=s at n;have dy:s.length<=4:=by
  rw[<-bS];have:=fC ("own_doors":Str) (.ref o4) (dA ("own_rooms":Str) (.ref o3) (dA ("own_says":Str) (.ref o2) (dA ("own_asks":Str) (.ref o1) [])));omega
 clear e5 F5;refine⟨_,rfl,_,rfl,l3,l4,ts,I,ds,rfl,L5.a3,L5.a4,L5.ds,m.okR.1,by omega,by omega,fun d hd=>(m.good d hd).a,fun O bl d1 T U bU S6=>⟨_,rfl,x,C,G,s,rfl,S6 _ _ n,M.cls,M.a5,by omega,?_⟩⟩;obtain⟨H6,e6,u,F6⟩:=sr "leaving" (.ref O) (S6 _ _ n);rw[<-e6];have E6:bJ x H5 H6:=(ab.exB S6).trans F6;have L6:=L5.exI n E6;have b1:=F6 _ _ U (IC (S6 _ _ n) U);have b8:∀y∈bl,∃A,H6 y.2=some (.lst (A.map V.ref))/\fP H6 A (cR ds y.1):=fun y hy=>by
  obtain⟨A,J,g2⟩:=bU y hy;exact⟨A,F6 _ _ J (bJ.neI (S6 _ _ n) J),g2.kt (F6.ktI (S6 _ _ n))⟩
 have cs:(bl.map (·.1)).Nodup:=by rw[T];exact m.okR.1
 have dT:=fC ("leaving":Str) (.ref O) s;have ct:lk "leaving" (dA ("leaving":Str) (.ref O) s)=some (.ref O):=by
  show ia _ _=_;rw[bP,if_pos rfl]
 clear e6 F6 U bU;refine⟨_,rfl,l3,rfl,⟨_,ay.of L6.a3⟩,fun f hf=>?_⟩
 let cv:Nat->List V->Hp->Prop:=fun i B H'=>B=((I.take i).filter (gU ds)).map V.str/\ab H6 H'/\H' f=some (.lst B)
 refine cF (xs:=I.map V.str) cv ⟨rfl,ab.new hf,aa⟩ (fun i B H' _ zq=>by obtain⟨_,S,h'⟩:=zq;exact⟨h',ay.of (S _ _ L6.a3)⟩) ?_ ?_;rotate_left
 ·rintro i B H' x' b2 hi ⟨rfl,S,f'⟩;obtain⟨r,hr,rfl⟩:=cE b2;obtain⟨⟨r',a⟩,b9,er⟩:=aV.mp (show r∈bl.map (·.1) by rw[T];exact bQ hr);obtain rfl:r'=r:=er;obtain⟨A,c0,c1⟩:=b8 _ b9;refine gN ?_;refine⟨_,rfl,x,C,G,_,.ref O,rfl,S _ _ u,M.cls,M.a5,ct,_,rfl,O,.ref a,rfl,.inl ⟨_,.inr r',.inl (S _ _ b1),rfl,(fJ jL cs b9).symm⟩,a,A,cR ds r',rfl,S _ _ c0,c1.kt (ab.kt S),aD (DB _ _) (by omega),m.sg0,fun bn l=>⟨_,rfl,?_⟩⟩;have cb:(((I.take i).filter (gU ds)).map V.str).length<aj:=by
   rw[ah];refine ar (aD (dk _ _) ?_);rw[aA];omega
  refine mJ (fun hq=>?_) (fun hq=>?_)
  ·refine⟨_,rfl,l _ _ f',cb,n5 hi ⟨?_,?_,aa⟩⟩
   ·rw[cB hr,if_pos (show gU ds r'=true from hq),ax];rfl
   ·intro b o q;rw[ai (ae q hf)];exact l _ _ (S _ _ q)
  ·refine n5 hi ⟨?_,S.trans l,?_⟩
   ·rw[cB hr,if_neg (show ¬gU ds r'=true from hq),eZ]
   ·exact l _ _ f'
 rintro B d2 ⟨rfl,S7,f7⟩;rw[ah,bb]at f7;refine sE (ws:=I.filter (gU ds)) (ay.of f7) (aD (dk _ _) (by omega)) fun qu bo=>⟨_,rfl,x,C,G,_,rfl,kp (S7 _ _ u) bo,M.cls,M.a6,by omega,?_⟩;obtain⟨H7,e7,al,F7⟩:=sr "quiet" (.ref qu) (kp (x:=.dK (aZ (I.filter (gU ds)))) (S7 _ _ u) bo);rw[<-e7];have n7:qu≠x:=(ae (S7 _ _ u) bo).symm;have c2:=F7 _ _ aa n7;have E7:bJ x H6 H7:=((ab.exB S7).trans (bJ.new bo)).trans F7;have L7:=L6.exI u E7;have dV:=fC ("quiet":Str) (.ref qu) (dA ("leaving":Str) (.ref O) s);clear e7 F7;refine⟨_,rfl,l4,ts,ds,rfl,L7.a4,L7.ds,by omega,fun sg b3 d3 G' S8=>⟨_,rfl,x,C,G,_,rfl,S8 _ _ al,M.cls,M.a7,by omega,?_⟩⟩;obtain⟨H8,e8,v,F8⟩:=sr "sign_goals" (.ref sg) (S8 _ _ al);rw[<-e8];have E8:bJ x H7 H8:=(ab.exB S8).trans F8;have L8:=L7.exI al E8;have G8:jN H8 sg b3 ds:=⟨G'.nd,F8 _ _ G'.g (Lf (S8 _ _ al) G'.g),fun y hy=>F8 _ _ (G'.ls y hy) (bJ.neI (S8 _ _ al) (G'.ls y hy)),G'.all⟩;have d0:=fC ("sign_goals":Str) (.ref sg) (dA ("quiet":Str) (.ref qu) (dA ("leaving":Str) (.ref O) s));have c3:lk "sign_goals" (dA ("sign_goals":Str) (.ref sg) (dA ("quiet":Str) (.ref qu) (dA ("leaving":Str) (.ref O) s)))=some (.ref sg):=by
  show ia _ _=_;rw[bP,if_pos rfl]
 clear e8 F8 G';refine⟨_,rfl,l3,rfl,⟨_,ay.of L8.a3⟩,fun bz cd=>?_⟩
 let c4:Nat->List V->Hp->Prop:=fun i B H'=>JA fun(A:Ze) (pl:List (Str×Addr))=>MO (B=A.map V.ref) (Paired (fun t (p:Str×Addr)=>H' t=some (.tup [.str p.1,.ref p.2])) A pl) (pl.map (·.1)=I.take i) ((∀p∈pl,∃L,H' p.2=some (.dK (aZ L))/\L.Nodup/\∀w,w∈L↔Reach ds p.1 w)) (ab H8 H') (H' bz=some (.lst B))
 refine cF (xs:=I.map V.str) c4
  ⟨[],[],rfl,.nil,rfl,by simp,ab.new cd,aa⟩ (fun i B H' _ zq=>by obtain⟨_,_,_,_,_,_,S,h'⟩:=zq;exact⟨h',ay.of (S _ _ L8.a3)⟩) ?_ ?_
 rotate_left
 ·rintro i B H' x' b2 hi ⟨A,pl,rfl,an,ce,c5,S,f'⟩;obtain⟨r,hr,rfl⟩:=cE b2;have c6:A.length<=150:=by
   rw[Paired.length an,<-ah (f:=(·.1)) (as:=pl),ce,aA];omega
  refine gN (oS ?_);refine⟨_,rfl,_,rfl,x,C,G,_,.ref sg,rfl,S _ _ v,M.cls,M.a7,c3,_,rfl,sg,r,b3,ds,I,rfl,G8.same S,fun d hd=>(m.good d hd).b,by omega,fun ld Lr bn c8 nd dc d4 l=>⟨(by show 2<=aj;decide),fun t ht=>⟨?_,?_,n5 hi ⟨A++[t],pl++[(r,ld)],?_,?_,?_,?_,?_,aa⟩⟩⟩⟩
  ·exact kp (l _ _ f') ht
  ·rw[ah];exact ar (by omega)
  ·rw[ax];rfl
  ·have KT:gg (upd bn t (.tup [.str r,.ref ld])) (upd (upd bn t (.tup [.str r,.ref ld])) bz (.lst (A.map V.ref++[.ref t]))):=dO (kp (l _ _ f') ht);exact Paired.app (Paired.mapP an fun t' p' e=>KT _ _ (kp (l _ _ e) ht)) (.cons (KT _ _ aa) .nil)
  ·rw[ax,ce,take_snoc hr];rfl
  ·have ch:∀{b:Addr}{dd:List (ge×V)},upd bn t (.tup [.str r,.ref ld]) b=some (.dK dd)->b≠bz:=fun hb z=>by rw[z,kp (l _ _ f') ht]at hb;cases hb
   intro p hp;rcases bL.mp hp with hp|hp
   ·obtain⟨L0,J,g2⟩:=c5 p hp;refine⟨L0,?_,g2⟩;have:=kp (x:=.tup [.str r,.ref ld]) (l _ _ J) ht;rw[ai (ch this)];exact this
   ·have:p=(r,ld):=by simpa using hp
    subst this;refine⟨Lr,?_,nd,dc⟩;have:=kp (x:=.tup [.str r,.ref ld]) c8 ht;rw[ai (ch this)];exact this
  ·intro b o q;rw[ai (ae q cd)];exact kp (l _ _ (S _ _ q)) ht
 rintro B d5 ⟨A,sps,rfl,an,D,cl,S9,f9⟩;rw[ah,bb]at D;have di:(sps.map (·.1)).Nodup:=by rw[D];exact m.okR.1
 refine⟨bz,A,eP Sum.inr sps,rfl,ay.of f9,?_,?_,fun sl N=>⟨_,rfl,x,C,G,_,rfl,kp (S9 _ _ v) N,M.cls,M.a8,by omega,?_⟩⟩
 ·rw[Paired.length an];unfold eP;rw[ah]
 ·intro j t kv hj b4;obtain⟨p,hp,e⟩:=Paired.getL an hj;unfold eP at b4;rw[cC,hp]at b4;have:=f6 b4;rw[<-this];exact e
 have bI:jV [] (eP Sum.inr sps)=eP Sum.inr sps:=vJ sps [] di;rw[bI];obtain⟨H9,e9,b5,F9⟩:=sr "still_led" (.ref sl) (kp (x:=.dK (eP Sum.inr sps)) (S9 _ _ v) N);rw[<-e9];have n9:sl≠x:=(ae (S9 _ _ v) N).symm;have cm:=F9 _ _ aa n9;have E9:bJ x H8 H9:=((ab.exB S9).trans (bJ.new N)).trans F9;have L9:=L8.exI v E9;have ap:∀p∈sps,∃L,H9 p.2=some (.dK (aZ L))/\L.Nodup/\∀w,w∈L↔Reach ds p.1 w:=fun p hp=>by
  obtain⟨L0,J,g2⟩:=cl p hp;have g3:=kp (x:=.dK (eP Sum.inr sps)) J N;exact⟨L0,F9 _ _ g3 (IC (kp (S9 _ _ v) N) g3),g2⟩
 clear e9 F9;have co:lk "still_led" (dA ("still_led":Str) (.ref sl) (dA ("sign_goals":Str) (.ref sg) (dA ("quiet":Str) (.ref qu) (dA ("leaving":Str) (.ref O) s))))=some (.ref sl):=by
  show ia _ _=_;rw[bP,if_pos rfl]
 refine⟨_,rfl,_,rfl,x,C,G,_,.ref sl,rfl,b5,M.cls,M.a8,co,l3,sl,I,sps,rfl,L9.a3,cm,D,m.okR.1,fun p hp=>?_,fun cp aC=>⟨_,rfl,k cp ?_ ?_⟩⟩
 ·obtain⟨L0,J,g2,g3⟩:=ap p hp;exact⟨L0,J,fun z=>m.noround _ ((g3 _).mp z)⟩
 ·have b6:bJ x H6 H9:=(E7.trans E8).trans E9;have dj:=((E6.trans E7).trans E8).trans E9;have Y:∀{b:Addr}{o:HO},H9 b=some o->cp b=some o:=fun h=>aC _ _ h;have LL:Lists H5 o1 o2 o3 o4 ts J0 J2 I ds:=⟨(E3.trans (E4.trans E5)) _ _ f1 n1,(E4.trans E5) _ _ f2 n2,E5 _ _ f3 n3,f4,L5.ds⟩;refine⟨⟨G,_,o1,o2,o3,o4,O,qu,sg,sl,ts,bl,b3,sps,Y b5,?_,?_,?_,?_,?_,?_,?_,?_,?_,?_,?_,co,(LL.exI n dj).same aC,T,?_,?_,?_,?_,D,Y cm,fun p hp=>?_⟩,m,⟨G,_,Y b5,?_,?_,?_,?_⟩⟩
  rotate_right 9
  ·exact Y (b6 _ _ b1 (IC u b1))
  ·intro y hy;obtain⟨dm,J,g2⟩:=b8 y hy;exact⟨dm,Y (b6 _ _ J (bJ.neI u J)),(g2.kt (b6.ktI u)).kt (ab.kt aC)⟩
  ·exact Y ((E8.trans E9) _ _ c2 n7)
  ·exact jN.same ⟨G8.nd,E9 _ _ G8.g (Lf v G8.g),fun y hy=>E9 _ _ (G8.ls y hy) (bJ.neI v (G8.ls y hy)),G8.all⟩ aC
  ·obtain⟨L0,J,g2⟩:=ap p hp;exact⟨L0,Y J,g2⟩
  all_goals(show ia _ _=_;subst bS;repeat (rw[bP];first|rw[if_pos rfl] | rw[if_neg (by decide +kernel)]))
  all_goals rfl
 ·exact((((((((E1.trans E2).trans E3).trans E4).trans E5).trans E6).trans E7).trans E8).trans E9).trans (ab.exB aC)
theorem KJ(a b:Str):decide (fG a=fG b)=decide (a=b):=by
 by_cases e:a=b
 ·rw[zzr1 e,zzr1 (by rw[e])]
 ·rw[zzr0 e,zzr0 (fun z=>e (qA z))]
theorem bY.by{C:Addr}{H e:Hp}{x:Addr}{s t u:Zb}{v:List ao}(h:bY C H x s t u v)
  (j:∀b w,H b=some (.lst (List.map V.str w))->e b=some (.lst (List.map V.str w))) (z:∀b k,H b=some (.lst (List.map V.ref k))->e b=some (.lst (List.map V.ref k))) (A:gg H e)
  (l:∀b a,H b=some (.dK a)->e b=some (.dK a)) (D:∀b a,H b=some (.dT a)->e b=some (.dT a)) (B:∀b C f fs,H b=some (.ins C f fs)->e b=some (.ins C f fs)):bY C e x s t u v:=by
 obtain⟨f,fs,E,I,J,M,N,O,Q,T,k,m,n,o,U,a1,a2,a3,Y,b1,b2,b3,b4,b5,b6,b7,b8,L,c1,c2,c3,c4,G,d1,d2,d3⟩:=h.at_;refine⟨⟨f,fs,E,I,J,M,N,O,Q,T,k,m,n,o,B _ _ _ _ U,a1,a2,a3,Y,b1,b2,b3,b4,b5,b6,b7,b8,⟨j _ _ L.a1,j _ _ L.a2,j _ _ L.a3,z _ _ L.a4,L.ds.kt A⟩,c1,l _ _ c2,fun y i=>?_,l _ _ c4,⟨G.nd,D _ _ G.g,fun y i=>j _ _ (G.ls y i),G.all⟩,d1,l _ _ d2,fun y i=>?_⟩,h.ok,by obtain⟨f,fs,g,r⟩:=h.more;exact⟨f,fs,B _ _ _ _ g,r⟩⟩
 ·obtain⟨us,p,q⟩:=c3 y i;exact⟨us,z _ _ p,q.kt A⟩
 ·obtain⟨L0,p,q⟩:=d3 y i;exact⟨L0,l _ _ p,q⟩
theorem bY.same{C:Addr}{H a:Hp}{x:Addr}{f g i:Zb}{j:List ao}(h:bY C H x f g i j)(S:ab H a):bY C a x f g i j :=
 h.by (fun _ _ e=>S _ _ e) (fun _ _ e=>S _ _ e) (ab.kt S) (fun _ _ e=>S _ _ e) (fun _ _ e=>S _ _ e) (fun _ _ _ _ e=>S _ _ e)
theorem bY.ex{C:Addr}{H H':Hp}{x p c:Addr}{g i j:Zb}{k:List ao}(h:bY C H x g i j k)(f:gP H p c)(S:bJ p H H'):bY C H' x g i j k:=by
 obtain⟨l,a⟩:=f.lst;exact h.by (fun _ _ e=>S _ _ e (f.ne_strs e)) (fun _ _ e=>S _ _ e (f.ne_refs e)) (S.kt a) (fun _ _ e=>S _ _ e (fun z=>by rw[z,a]at e;cases e)) (fun _ _ e=>S _ _ e (fun z=>by rw[z,a]at e;cases e)) (fun _ _ _ _ e=>S _ _ e (fun z=>by rw[z,a]at e;cases e))
inductive jI(C:Addr)(vs:List V)(H:Hp)(Q:VK)(E:XK):Prop
 |mk (x:Addr) (w:Str) (J0 J2 J4:Zb) (ds:List ao):(vs=[.ref x,.str w])->(bY C H x J0 J2 J4 ds)->(Q (.bl (decide (w∈J4.filter (gU ds)))) H)->jI C vs H Q E
theorem BJ{K:Za}{C:Addr}(M:MC K C){a:List V}{H:Hp}{Q:VK}{E:XK}(h:jI C a H Q E):oY K (bq Q) (start pH a) H:=by
 obtain⟨x,w,o,p,q,r,rfl,h,k⟩:=h;obtain⟨f,fs,s,t,u,v,y,e,z,A,B,g,i,j,l,a1,a2,a3,D,G,I,J,N,O,m,T,U,L,Y,c2,c3,n,_⟩:=h.at_;refine⟨_,rfl,_,rfl,x,C,f,fs,.ref e,rfl,l,M.cls,M.a6,m,e,_,rfl,.inl ⟨_,.inr w,.inl n,rfl,rfl⟩,?_⟩;rw[fK];exact k
def bX:List Str:=[("hush":Str)]
inductive kQ(C:Addr)(vs:List V)(H:Hp)(Q:VK)(E:XK):Prop
 |mk (t l1 l2 l3 l4:Addr) (ts:Ze) (J0 J2 J4:Zb) (ds:List ao):(vs=[.ref t])->(h9 H t l1 l2 l3 l4 ts J0 J2 J4 ds)->(cK J0 J2 J4 ds)->(∀(x:Addr) (H':Hp),bY C H' x J0 J2 J4 ds->ab H H'->Q (.ref x) H')->kQ C vs H Q E
theorem Dk{K:Za}{C:Addr}{D:List V}{H:Hp}{Q:VK}{E:XK}(h:kQ C D H Q E):wE K C (uq C) (bq Q) (start xb D) H:=by
 obtain⟨t,N,O,U,Y,f,g,i,j,ds,rfl,T,m,k⟩:=h;refine⟨_,rfl,.inr (.inl ⟨t,_,0,_,rfl,rfl,bT.of T.t,rfl,.inl ⟨N,_,rfl,.inl (ay.of T.a1),fun s G=>?_⟩⟩)⟩;have u:=T.same (ab.new (o:=.lst (g.map V.str)) G);refine⟨_,rfl,.inr (.inl ⟨t,_,1,_,rfl,rfl,bT.of u.t,rfl,.inl ⟨O,_,rfl,.inl (ay.of u.a2),fun v w=>?_⟩⟩)⟩;have y:=u.same (ab.new (o:=.lst (i.map V.str)) w);refine⟨_,rfl,.inr (.inl ⟨t,_,2,_,rfl,rfl,bT.of y.t,rfl,.inl ⟨U,_,rfl,.inl (ay.of y.a3),fun z p=>?_⟩⟩)⟩;have A:=y.same (ab.new (o:=.lst (j.map V.str)) p);refine⟨_,rfl,.inr (.inl ⟨t,_,3,_,rfl,rfl,bT.of A.t,rfl,.inl ⟨Y,_,rfl,.inl (ay.of A.a4),fun B l=>?_⟩⟩)⟩;have T4:=A.same (ab.new (o:=.lst (f.map V.ref)) l);have I:=(((ab.new (o:=.lst (g.map V.str)) G).trans (ab.new (o:=.lst (i.map V.str)) w)).trans (ab.new (o:=.lst (j.map V.str)) p)).trans (ab.new (o:=.lst (f.map V.ref)) l);refine fun x r J a n=>?_;have L:ab H (upd (upd (upd (upd (upd (upd H s (.lst (g.map V.str))) v (.lst (i.map V.str))) z (.lst (j.map V.str))) B (.lst (f.map V.ref))) r (.own x)) x (.ins C r [])) :=
  (I.trans (ab.new a)).trans (ab.new (by rw[ai n.symm];exact J))
 have e:upd (upd (upd (upd (upd H s (.lst (g.map V.str))) v (.lst (i.map V.str))) z (.lst (j.map V.str))) B (.lst (f.map V.ref))) r (.own x) x=none:=by rw[ai n.symm];exact J
 refine⟨x,r,s,v,z,B,f,g,i,j,ds,rfl,aa,⟨?_,?_,?_,?_,T.ds.kt (ab.kt L)⟩,m,fun H' M ex=>⟨rfl,k x H' M fun b o q=>?_⟩⟩
 ·exact kp (kp (kp (kp (kp aa w) p) l) a) e
 ·exact kp (kp (kp (kp aa p) l) a) e
 ·exact kp (kp (kp aa l) a) e
 ·exact kp (kp aa a) e
 ·have hq:=L _ _ q;exact ex _ _ hq (ae (I.trans (ab.new a) _ _ q) e)
def gZ(ds:List ao):List Str:=(ds.filter fun d=>!mK d).map (·.a)
theorem Dp(e:List ao)(r:Str):gU e r=decide (r∉gZ e):=by
 unfold gU gZ cR;rw[Bc,List.all_eq_true,decide_eq_true_iff];constructor
 ·intro h z;obtain⟨d,a,rfl⟩:=aV.mp z;rw[fZ]at a;have:=h d (fZ.mpr ⟨a.1,zzr1 rfl⟩);rw[this]at a;exact absurd a.2 (by decide)
 ·intro h d a;rw[fZ]at a;cases q:mK d with
  |true=>rfl
  |false =>
   refine absurd (aV.mpr ⟨d,fZ.mpr ⟨a.1,by rw[q];rfl⟩,?_⟩) h;exact of_decide_eq_true a.2
theorem uv{w:Str}{a:Zb}:fG w∈a.map fG↔w∈a:=by
 constructor
 ·intro h;obtain⟨x,f,e⟩:=aV.mp h;rw[<-qA e];exact f
 ·exact lW
theorem xI{e:List ao}{i:Nat}{d:ao}(h:e[i]?=some d):gZ (e.take (i+1))=gZ (e.take i)++(if(!mK d)=true then[d.a]else[]):=by
 unfold gZ;rw[take_snoc h,jd,ax];congr 1;by_cases c:(!mK d)=true
 ·rw[if_pos c];simp[List.filter_cons,c]
 ·rw[if_neg c];simp[List.filter_cons,c]
def zb(K:Za)(C_Machine:Addr)(sp_Machine_rooms:Sp)(sp_Machine_led_from:Sp):TS :=
 aq (aI (vo) U2)
 (aq (fA (cr K V1) U3 (cG (tB (iX K V3 V2)) (aq (lH V2 V3 (tC (.bl true)))
 (fA (cr K (cz C_Machine "led_from" sp_Machine_led_from [] E0 V0 (aw V3))) U4 (lH V2 V4 (tC (.bl true))))) (bC)))
 (aQ (gk (oz K) (aw (cA 1 [2] (cr K (cz C_Machine "rooms" sp_Machine_rooms [] E0 V0 bp)) U0 (tB (FL K V0 V1)) V0)))))
def AM:List Str:=["M","rooms","found","room","led"]
def tQ(K:Za):TS :=
 aQ (gk (fB K) (aw (jh K V0 "own_rooms")))
def uh:List Str:=["self"]
def oX(K:Za):TS :=
 aQ (gk (fB K) (aw (zQ K (jh K V0 "still_led") V1 (bj (bp)))))
def pG:List Str:=["self","room"]
def tR(K:Za):TS :=
 aQ (gk (fB K) (aw (zQ K (jh K V0 "sign_goals") (bj (aT V1 V2)) (bj (bp)))))
def ui:List Str:=["self","room","sign"]
def vd(K:Za):TS :=
 aq (aI (gk (fB K) (aw V1)) U2)
 (aq (aI (tC (.int 0)) U3)
 (aq (vg (be (az HV V3 (gk (ie K) (aw V2)))) (aq (fA (cr K V0) (g6 K 3 (aY U4 (aY U5 (aY U6 (gM))))) (cG (Hz (be (az (w6 K) V4 (az (t7 K) V2 V3))) (Hz (be (az (w6 K) V5 (bj (aw (tC (.str "still")))))) (be (az (vw K true) V6 V2)))) (dR (Dc K "list" gb V2 (aw V6))) (bC)))
 (aI (az dS V3 (tC (.int 1))) U3)))
 (aQ V2)))
def wu:List Str:=["doors","rooms","found","at","room","sign","other"]
inductive mx(C:Addr)(vs:List V)(H:Hp)(Q:VK)(E:XK):Prop
 |mk (x:Addr) (J0 J2 J4:Zb) (ds:List ao):(vs=[.ref x])->(bY C H x J0 J2 J4 ds)->(∀l,H l=none->Q (.ref l) (upd H l (.lst (J4.map V.str))))->mx C vs H Q E
theorem HF{K:Za}{C:Addr}(M:MC K C){a:List V}{H:Hp}{Q:VK}{E:XK}(h:mx C a H Q E):tQ K (bq Q) (start uh a) H:=by
 obtain⟨x,n,o,p,q,rfl,h,k⟩:=h;obtain⟨f,fs,r,s,e,t,u,v,w,y,z,g,i,j,l,a1,a2,a3,A,B,D,m,G,I,J,N,O,L,_⟩:=h.at_;exact⟨_,rfl,x,C,f,fs,.ref e,rfl,l,M.cls,M.a3,m,.inl ⟨e,_,rfl,.inl (ay.of L.a3),k⟩⟩
theorem B8:∀{L:Zb},L.Nodup->(aZ L).map (fun a=>kV a.1)=L.map V.str:=by
 intro L;refine j9 (fun L=>L.Nodup->(aZ L).map (fun a=>kV a.1)=L.map V.str) (fun _=>rfl) (fun f w g e=>?_) L;rw[d7]at e;have h:bu (aZ f) (.inr w)=none:=by
  rw[vO,if_neg (fun z=>e.2.2 w z w (by simp) rfl)]
 show(aZ (f++[w])).map _=_;rw[eC,jp _ h,ax,g e.1,ax]
 rfl
inductive jH(C:Addr)(vs:List V)(H:Hp)(Q:VK)(E:XK):Prop
 |mk (x:Addr) (r:Str) (J0 J2 J4:Zb) (ds:List ao):(vs=[.ref x,.str r])->(bY C H x J0 J2 J4 ds)->(r∈J4)->(∀(l:Addr) (L:Zb) (H':Hp),H' l=some (.lst (L.map V.str))->L.Nodup->(∀w,w∈L↔Reach ds r w)->H l=none->ab H H'->Q (.ref l) H')->jH C vs H Q E
theorem BI{K:Za}{C:Addr}(M:MC K C){j:List V}{H:Hp}{Q:VK}{E:XK}(h:jH C j H Q E):oX K (bq Q) (start pG j) H:=by
 obtain⟨x,r,N,O,T,U,rfl,h,t,k⟩:=h;obtain⟨u,fs,Y,o2,o3,o4,lv,qu,sg,m,ts,v,w,g,y,a1,a2,a3,a4,b1,b2,b3,b4,b5,b6,b7,z,L,c1,c2,c3,c4,G,n,o,A⟩:=h.at_;have i:=h.ok.okR.1;obtain⟨⟨p,a⟩,f,B⟩:=aV.mp (show r∈g.map (·.1) by rw[n];exact t);obtain rfl:p=r:=B;obtain⟨D,I,q,J⟩:=A _ f;refine⟨_,rfl,x,C,u,fs,.ref m,rfl,y,M.cls,M.a8,z,m,rfl,.inl ⟨_,.inl o⟩,_,rfl,(by show 0<=aj;decide),fun et e=>⟨_,.inl ⟨_,.inr p,.inl (kp o e),rfl,rfl⟩,?_⟩⟩;rw[fJ jL (by rw[n];exact i) f];refine .inr ⟨a,_,rfl,.inl (kp I e),fun l s=>k l D _ ?_ q J ((ab.new e).free s) ((ab.new e).trans (ab.new s))⟩;rw[aa,B8 q]
inductive ke(C:Addr)(vs:List V)(H:Hp)(Q:VK)(E:XK):Prop
 |mk (x s:Addr) (r:Str) (sg J0 J2 J4:Zb) (ds:List ao):(vs=[.ref x,.str r,.ref s])->(bY C H x J0 J2 J4 ds)->(H s=some (.tup (sg.map V.str)))->(∀(l:Addr) (H':Hp),H' l=some (.lst ((bR ds (r,sg)).map V.str))->H l=none->ab H H'->Q (.ref l) H')->ke C vs H Q E
theorem FW{K:Za}{C:Addr}(M:MC K C){t:List V}{H:Hp}{Q:VK}{E:XK}(h:ke C t H Q E):tR K (bq Q) (start ui t) H:=by
 obtain⟨x,s,r,e,Y,J2,J4,w,rfl,h,A,k⟩:=h;obtain⟨B,fs,o1,o2,o3,o4,lv,qu,u,sl,ts,D,m,I,J,a1,a2,a3,a4,b1,b2,b3,b4,b5,b6,N,b8,L,c1,c2,c3,c4,G,d1,d2,d3⟩:=h.at_;have O:=h.ok.okR.1;refine⟨_,rfl,x,C,B,fs,.ref u,rfl,J,M.cls,M.a7,N,u,rfl,.inr ⟨_,.inl G.g⟩,_,rfl,_,rfl,(by show 2<=aj;decide),fun kt j=>⟨(by show 0<=aj;decide),fun v i=>⟨bu (eP wA m) (wA (r,e)),.inr ⟨_,wA (r,e),kt,.inl (kp (kp G.g j) i),rfl,?_,ny _,rfl⟩,?_⟩⟩⟩
 ·refine eR.isIn 8 (ny _) ?_;unfold wA eR;refine⟨kt,_,rfl,kp aa i,?_⟩;unfold TKAts;refine⟨_,_,rfl,y_ _,?_⟩;unfold TKAts;refine⟨_,_,rfl,SignAt.tk (kp (kp A j) i),?_⟩;unfold TKAts
  rfl
 have n:ab H (upd (upd H kt (.tup [.str r,.ref s])) v (.tup [])):=(ab.new j).trans (ab.new i);by_cases f:(r,e)∈m.map (·.1)
 ·obtain⟨⟨y,a⟩,o,T⟩:=aV.mp f;obtain rfl:y=(r,e):=T;rw[fJ iZ G.nd o];exact .inl ⟨a,_,rfl,.inl (ay.of (n _ _ (G.ls _ o))),fun l p=>k l _ aa (n.free p) (n.trans (ab.new p))⟩
 ·rw[nE iZ f];have q:bR w (r,e)=[]:=mL fun y U z=>f (by rw[<-z];exact G.all y U);refine .inl ⟨v,[],rfl,.inr (bT.of aa),fun l p=>k l _ ?_ (n.free p) (n.trans (ab.new p))⟩;rw[q];exact aa
theorem Reach.trans{ds:List ao}{a b c:Str}(e:Reach ds a b)(f:Reach ds b c):Reach ds a c:=by
 induction f with
 |one h=>exact .step e h
 |step r h g=>exact .step g h
def jF(ds:List ao)(gs:Zb)(w:Str):Prop:=∃g∈gs,w=g∨Reach ds g w
theorem jF.in_{e:List ao}{f a:Zb}{w:Str}(i:∀g∈f,g∈a)(j:∀d∈e,d.b∈a)(h:jF e f w):w∈a:=by
 obtain⟨g,k,rfl|h2⟩:=h
 ·exact i _ k
 ·exact h2.in_ j
def t9(F:Zb)(w:Str):List Str:=if w∈F then F else F++[w]
theorem B7(F:Zb):∀e∈aZ F,e.2=.bl true:=by
 refine j9 (fun F=>∀e∈aZ F,e.2=.bl true) (by intro e h;cases h) (fun i w f=>?_) F;intro e a;rw[eC]at a;unfold eG at a;split at a
 ·obtain⟨x,g,rfl⟩:=aV.mp a;split
  ·rfl
  ·exact f x g
 ·rcases bL.mp a with h|h
  ·exact f e h
  ·have:e=(.inr w,.bl true):=by simpa using h
   rw[this]
theorem vP(F:Zb)(w:Str):eG (aZ F) (.inr w) (.bl true)=aZ (t9 F w):=by
 unfold t9;by_cases c:w∈F
 ·rw[if_pos c];have f:((aZ F).any fun a=>decide (a.1=(.inr w:ge)))=true:=by
   rw[j7,fK,zzr1 c]
  unfold eG;rw[if_pos f];have:∀l:List (ge×V),(∀a∈l,a.2=.bl true)->l.map (fun a=>if a.1=(.inr w:ge)then(a.1,V.bl true)else a)=l:=by
   intro l
   induction l with
   |nil=>intro _;rfl
   |cons x l g =>
    intro h;rw[bF,g fun a e=>h a (dY _ e)];congr 1;split
    ·rw[<-h x dQ]
    ·rfl
  exact this _ (B7 F)
 ·rw[if_neg c,eC]
theorem wg{F:Zb}(h:F.Nodup)(w:Str):(t9 F w).Nodup:=by
 unfold t9;split
 ·exact h
 ·next c =>
  rw[d7];refine⟨h,by simp,fun a f b g e=>?_⟩;have:b=w:=by simpa using g
  exact c (by rw[<-this,<-e];exact f)
theorem B4{F:Zb}{w y:Str}:y∈t9 F w↔y∈F∨y=w:=by
 unfold t9;split
 ·next c=>exact⟨.inl,fun h=>h.elim id fun e=>by rw[e];exact c⟩
 ·rw[bL];simp
inductive sp_with_still(C:Addr)(vs:List V)(H:Hp)(Q:VK)(E:XK):Prop
 |mk (x l:Addr) (gs J0 J2 J4:Zb) (ds:List ao):(vs=[.ref x,.ref l])->(bY C H x J0 J2 J4 ds)->(H l=some (.lst (gs.map V.str)))->((∀g∈gs,g∈J4))->(∀(t:Addr) (F:Zb) (H':Hp),H' t=some (.tup ((J4.filter fun r=>decide (r∈F)).map V.str))->(∀w,w∈F↔jF ds gs w)->ab H H'->Q (.ref t) H')->sp_with_still C vs H Q E
theorem wU{K:Za}{C:Addr}{D:List V}{H:Hp}{Q:VK}{E:XK}(h:sp_with_still C D H Q E):zb K C (mx C) (jH C) (bq Q) (start AM D) H:=by
 obtain⟨x,l,gs,J0,J2,a,G,rfl,M,hl,hg,k⟩:=h;have T:∀d∈G,d.b∈a:=fun d hd=>(M.ok.good d hd).b;have z3:=M.ok.rooms26;refine fun d hd=>?_;refine⟨_,rfl,l,rfl,⟨_,ay.of (kp hl hd)⟩,?_⟩
 let a6:Nat->L2.St->Hp->Prop:=fun i σ m=>Mi fun(F:Zb) (x3 x4:Option V)=>Jr (σ=[some (.ref x),some (.ref l),some (.ref d),x3,x4]) (m d=some (.dK (aZ F))) (ab H m) (F.Nodup) (∀w,w∈F↔jF G (gs.take i) w)
 refine cN (xs:=gs.map V.str) a6
  ⟨[],_,_,rfl,aa,ab.new hd,ml,fun w=>⟨fun h=>(by cases h),fun⟨g,h,_⟩=>(by cases h)⟩⟩ (fun i σ m _ zq=>by obtain⟨_,_,_,_,_,S,_,_⟩:=zq;exact ay.of (S _ _ hl)) ?_ ?_
 ·rintro i y σ I hi ⟨F,x3,x4,rfl,s,S1,nd,U⟩;obtain⟨r,hr,rfl⟩:=cE hi;have as:r∈a:=hg r (bQ hr);have aC:∀w∈F,w∈a:=fun w hw=>((U w).mp hw).in_ (fun g hg'=>hg g (gQ hg')) T;refine⟨_,rfl,_,rfl,d,_,rfl,.inl ⟨_,.inr r,.inl s,rfl,rfl⟩,_,rfl,?_⟩;rw[fK];have u:∀w,jF G (gs.take (i+1)) w↔(jF G (gs.take i) w∨w=r∨Reach G r w):=by
   intro w;rw[take_snoc hr];constructor
   ·rintro⟨g,hg',h⟩;rcases bL.mp hg' with hg'|hg'
    ·exact .inl ⟨g,hg',h⟩
    ·have:g=r:=by simpa using hg'
     subst this;exact .inr h
   ·rintro(⟨g,hg',h⟩|h)
    ·exact⟨g,dz _ hg',h⟩
    ·exact⟨r,dP _ (by simp),h⟩
  by_cases c:r∈F
  ·rw[zzr1 c];refine bt ⟨F,_,_,rfl,s,S1,nd,fun w=>?_⟩;rw[u,U];refine⟨.inl,fun h=>h.elim id fun h=>?_⟩;obtain⟨g,hg',hgr⟩:=(U r).mp c;rcases h with h|h
   ·rw[h];exact⟨g,hg',hgr⟩
   ·refine⟨g,hg',.inr ?_⟩;rcases hgr with e|hgr
    ·rw[<-e];exact h
    ·exact hgr.trans h
  ·rw[zzr0 c];refine bG ?_;have n:∀{F:Zb},F.Nodup->(∀w∈F,w∈a)->(aZ F).length<aj:=fun nd hs=>ar (aD (k_ _) (aD (qK nd hs) (by omega)));refine⟨_,rfl,_,rfl,d,_,rfl,.inl ⟨_,.inr r,s,rfl,n nd aC,rfl⟩,?_⟩;rw[vP];have Y:ab H (upd I d (.dK (aZ (t9 F r)))):=fun b o q=>by rw[ai (ae q hd)];exact S1 _ _ q
   have p:upd I d (.dK (aZ (t9 F r))) d=some (.dK (aZ (t9 F r))):=aa;generalize upd I d (.dK (aZ (t9 F r)))=H2 at Y p ⊢;have M2:=M.same Y;obtain⟨dx,fs,o1,o2,o3,o4,lv,qu,sg,sl,ts,a7,a8,a9,g1,a1,a2,a3,a4,_⟩:=M2.at_;refine⟨_,rfl,x,dx,fs,rfl,g1,a3,_,rfl,x,r,J0,J2,a,G,rfl,M2,as,fun ll L H3 a0 bl hL al S3=>⟨ll,rfl,⟨_,ay.of a0⟩,?_⟩⟩;have ba:=S3 _ _ p;have bn:H ll=none:=Y.free al;have bc:ll≠d:=fun z=>by rw[z,p]at al;cases al
   let bd:Nat->L2.St->Hp->Prop:=fun j σ m=>JA fun(J:Zb) (x4:Option V)=>MO (σ=[some (.ref x),some (.ref l),some (.ref d),some (.str r),x4]) (m d=some (.dK (aZ J))) (m ll=some (.lst (L.map V.str))) (ab H m) (J.Nodup) (∀w,w∈J↔(jF G (gs.take i) w∨w=r∨w∈L.take j))
   refine cN (xs:=L.map V.str) bd
    ⟨t9 F r,_,rfl,ba,a0,Y.trans S3,wg nd r,fun w=>?_⟩ (fun j σ m _ zq=>by obtain⟨_,_,_,_,h,_,_,_⟩:=zq;exact ay.of h) ?_ ?_
   ·rw[B4,U];simp
   ·rintro j y σ H4 hj ⟨J,bf,rfl,an,N,S4,B,A⟩;obtain⟨v,hv,rfl⟩:=cE hj;have ap:∀w∈J,w∈a:=by
     intro w hw;rcases(A w).mp hw with h|h|h
     ·exact h.in_ (fun g hg'=>hg g (gQ hg')) T
     ·rw[h];exact as
     ·exact((hL w).mp (gQ h)).in_ T
    refine⟨_,rfl,_,rfl,d,_,rfl,.inl ⟨_,.inr v,an,rfl,n B ap,rfl⟩,t9 J v,_,rfl,?_,?_,?_,wg B v,fun w=>?_⟩
    ·rw[aa,vP]
    ·rw[ai bc];exact N
    ·intro b o q;rw[ai (ae q hd)];exact S4 _ _ q
    ·rw[B4,A,take_snoc hv,bL];simp only[eE];constructor
     ·rintro((h|h|h)|h)
      ·exact .inl h
      ·exact .inr (.inl h)
      ·exact .inr (.inr (.inl h))
      ·exact .inr (.inr (.inr h))
     ·rintro(h|h|h|h)
      ·exact .inl (.inl h)
      ·exact .inl (.inr (.inl h))
      ·exact .inl (.inr (.inr h))
      ·exact .inr h
   ·rintro σ H4 ⟨J,bf,rfl,an,N,S4,B,A⟩;rw[ah,bb]at A;refine⟨J,_,_,rfl,an,S4,B,fun w=>?_⟩;rw[u,A,hL]
 ·rintro σ I ⟨F,x3,x4,rfl,s,S1,nd,U⟩;rw[ah,bb]at U;have M1:=M.same S1;obtain⟨dx,fs,o1,o2,o3,o4,lv,qu,sg,sl,ts,a7,a8,a9,g1,a1,a2,a3,a4,_⟩:=M1.at_;refine⟨_,rfl,x,dx,fs,rfl,g1,a4,x,J0,J2,a,G,rfl,M1,fun rl a5=>⟨rl,rfl,⟨_,ay.of aa⟩,fun f hf=>?_⟩⟩;have Y:ab H (upd I rl (.lst (a.map V.str))):=S1.trans (ab.new a5);have p:upd I rl (.lst (a.map V.str)) d=some (.dK (aZ F)):=kp s a5;have O:upd I rl (.lst (a.map V.str)) rl=some (.lst (a.map V.str)):=aa;generalize upd I rl (.lst (a.map V.str))=H2 at Y p O hf ⊢
  let bh:Nat->List V->Hp->Prop:=fun i D m=>D=((a.take i).filter fun r=>decide (r∈F)).map V.str/\ab H2 m/\m f=some (.lst D)
  refine cF (xs:=a.map V.str) bh ⟨rfl,ab.new hf,aa⟩ (fun i D m _ zq=>by obtain⟨_,S,h'⟩:=zq;exact⟨h',ay.of (S _ _ O)⟩) ?_ ?_
  ·rintro D m ⟨rfl,S,f'⟩;rw[ah,bb]at f';exact⟨f,_,rfl,.inl ⟨ay.of f',fun t ht=>k t F _ aa U (Y.trans (S.trans (ab.new ht)))⟩⟩
  ·rintro i D m x' bi hi ⟨rfl,S,f'⟩;obtain⟨r,hr,rfl⟩:=cE bi;refine gN ?_;refine⟨_,rfl,_,rfl,d,_,rfl,.inl ⟨_,.inr r,.inl (S _ _ p),rfl,rfl⟩,_,rfl,?_⟩;rw[fK];have n:(((a.take i).filter fun r=>decide (r∈F)).map V.str).length<aj:=by
    rw[ah];refine ar (aD (dk _ _) ?_);rw[aA];omega
   refine mJ (fun hq=>?_) (fun hq=>?_)
   ·refine⟨_,rfl,f',n,n5 hi ⟨?_,?_,aa⟩⟩
    ·rw[cB hr,if_pos hq,ax];rfl
    ·intro b o q;rw[ai (ae q hf)];exact S _ _ q
   ·refine n5 hi ⟨?_,S,f'⟩;rw[cB hr,if_neg hq,eZ]
inductive iD(K:Za)(vs:List V)(H:Hp)(Q:VK)(E:XK):Prop
 |mk (l4 l:Addr) (ts:Ze) (ds:List ao) (gs J4:Zb):(vs=[.ref l4,.ref l])->(H l4=some (.lst (ts.map V.ref)))->(fP H ts ds)->(H l=some (.lst (gs.map V.str)))->((∀d∈ds,d.b∈J4))->(J4.length<=1000)->(gs.length<=1000)->(∀(f:Addr) (F:Zb) (H':Hp),H' f=some (.lst (F.map V.str))->(∀w,w∈F↔jF ds gs w)->F.length<=2000->H f=none->ab H H'->Q (.ref f) H')->iD K vs H Q E
structure SO(H0 H:Hp)(ds:List ao)(gs:Zb)(f:Addr)(X:Zb):Prop where
 f:H f=some (.lst ((gs++X).map V.str))
 same:ab H0 H
 nd:X.Nodup
 new:∀y∈X,y∉gs
 sound:∀y∈X,jF ds gs y
theorem jF.step{ds:List ao}{f:Zb}{a b:Str}(h:jF ds f a)(e:(⟨a,bx,b⟩:ao)∈ds):jF ds f b:=by
 obtain⟨g,i,rfl|h⟩:=h
 ·exact⟨_,i,.inr (.one e)⟩
 ·exact⟨g,i,.inr (.step h e)⟩
theorem jM(a b:Zb):decide (fH a=fH b)=decide (a=b):=by
 by_cases e:a=b
 ·rw[zzr1 e,zzr1 (by rw[e])]
 ·rw[zzr0 e,zzr0 (fun z=>e (qU z))]
inductive SoI(l4 l f:Addr)(at_:Int)(H:Hp)(ds:List ao)(gs X:Zb)(here:Str)(j:Nat)(σ:L2.St)(H':Hp):Prop
 |mk (X' Y:Zb) (x y z:Option V):σ=[some (.ref l4),some (.ref l),some (.ref f),some (.int at_),x,y,z]->X'=X++Y->SO H H' ds gs f X'->(∀d∈ds.take j,d.a=here->d.sg=bx->d.b∈gs++X')->SoI l4 l f at_ H ds gs X here j σ H'
theorem BG{K:Za}{vs:List V}{H:Hp}{Q:VK}{E:XK}(h:iD K vs H Q E):vd K (bq Q) (start wu vs) H:=by
 obtain⟨l4,l,ts,ds,u,J4,rfl,h4,ap,hl,a8,hz,bo,k⟩:=h;refine⟨_,rfl,.inl ⟨l,_,rfl,.inl (ay.of hl),fun f hf=>?_⟩⟩;have M:∀{X:Zb},X.Nodup->(∀y∈X,y∉u)->(∀y∈X,jF ds u y)->X.length<=J4.length:=fun nd nw sd=>qK nd fun y hy=>by
  obtain⟨g,hg,e|h⟩:=sd y hy
  ·exact absurd (by rw[e];exact hg) (nw y hy)
  ·exact h.in_ a8
 refine⟨fun m σ H'=>∃(X:Zb) (p:Nat) (x y z:Option V),σ=[some (.ref l4),some (.ref l),some (.ref f),some (.int p),x,y,z]/\SO H H' ds u f X/\p<=(u++X).length/\(∀i y,i<p->(u++X)[i]?=some y->∀c,(⟨y,bx,c⟩:ao)∈ds->c∈u++X)/\m=u.length+J4.length-p,
  ⟨_,[],0,_,_,_,rfl,⟨by rw[eZ];exact aa,ab.new hf,ml,by simp,by simp⟩,cL _,fun i y h=>by omega,rfl⟩,?_⟩
 rintro m σ H1 ⟨X,p,x4,x5,x6,rfl,D,bz,as,rfl⟩;have bI:=M D.nd D.new D.sound;refine⟨_,rfl,_,rfl,.inl ⟨f,_,rfl,.inl (ay.of D.f),_,_,rfl,rfl,_,rfl,?_⟩⟩;refine mJ (fun O=>?_) (fun O=>?_)
 ·have C:p<(u++X).length:=by
   have:=of_decide_eq_true O;rw[ah]at this;omega
  have bi:p<u.length+J4.length:=by rw[aO]at C;omega
  generalize T:(u++X)[p]=here;have J:(u++X)[p]?=some here:=by rw[<-T];exact bM C
  have U:∀{Y:Zb}{y:Str},(∀y∈Y,jF ds u y)->y∈u++Y->jF ds u y:=fun sd hy=>by
   rcases bL.mp hy with hy|hy
   ·exact⟨_,hy,.inl rfl⟩
   ·exact sd _ hy
  refine⟨fun σ' H'=>∃(N:Zb) (x y z:Option V),σ'=[some (.ref l4),some (.ref l),some (.ref f),some (.int ((p+1:Nat):Int)),x,y,z]/\SO H H' ds u f N/\p+1<=(u++N).length/\(∀i y,i<p+1->(u++N)[i]?=some y->∀c,(⟨y,bx,c⟩:ao)∈ds->c∈u++N),
   fun σ' H' ⟨N,x,y,z,e,D',h1,h2⟩=>⟨_,(by omega:u.length+J4.length-(p+1)<u.length+J4.length-p),N,p+1,x,y,z,e,D',h1,h2,rfl⟩,?_⟩
  refine⟨_,rfl,l4,rfl,⟨_,ay.of (D.same _ _ h4)⟩,?_⟩;refine cN (xs:=ts.map V.ref) (SoI l4 l f p H ds u X here)
   ⟨X,[],_,_,_,rfl,by simp,D,by simp⟩ (fun j σ H' _ zq=>by obtain⟨_,_,_,_,_,_,_,D',_⟩:=zq;exact ay.of (D'.same _ _ h4)) ?_ ?_
  ·rintro j y σ H2 hj ⟨N,Y,a9,ba,bc,rfl,rfl,G,A⟩;obtain⟨t,ht,rfl⟩:=bV hj;obtain⟨v,aC,a0⟩:=Paired.getL ap ht;obtain⟨s,bd,bf⟩:=a0.kt (ab.kt G.same);have a4:=bQ aC;have bl:=M G.nd G.new G.sound;have al:(u++(X++Y))[p]?=some here:=by
    rw[<-fS,u4 C];exact J
   refine⟨t,_,rfl,bT.of bd,rfl,_,_,rfl,_,_,rfl,_,_,rfl,rfl,?_⟩;have B:∀(H3:Hp) (X3 Y3:Zb) (q4 q5 q6:Option V),X3=X++Y3->SO H H3 ds u f X3->(∀y∈X++Y,y∈X3)->(v.a=here->v.sg=bx->v.b∈u++X3) ->
     SoI l4 l f p H ds u X here (j+1) [some (.ref l4),some (.ref l),some (.ref f),some (.int p),q4,q5,q6] H3:=by
    intro H3 X3 Y3 q4 q5 q6 e I a5 a6;refine⟨X3,Y3,q4,q5,q6,rfl,e,I,fun d hd e1 e2=>?_⟩;rw[take_snoc aC]at hd;rcases bL.mp hd with hd|hd
    ·rcases bL.mp (A d hd e1 e2)with h|h
     ·exact dz _ h
     ·exact dP _ (a5 _ h)
    ·have:d=v:=by simpa using hd
     subst this;exact a6 e1 e2
   refine⟨_,rfl,_,rfl,_,rfl,.inl ⟨f,_,_,_,rfl,rfl,ay.of G.f,aN (j:=p) (by rw[cC,al];rfl),fG v.a,fG here,tD _,tD _,(by show 0<=8;decide),(by show 0<=8;decide),_,rfl,?_⟩⟩;rw[KJ];by_cases c1:v.a=here;rotate_left
   ·rw[zzr0 c1];exact bt (bt (B H2 _ _ _ _ _ rfl G (fun _ h=>h) fun e=>absurd e c1))
   rw[zzr1 c1];refine bG ?_;refine⟨_,rfl,(by show 1<=aj;decide),fun st L=>⟨fH v.sg,fH bx,bv (bT.of (kp bf L)),bv (bT.of aa),by rw[bA];decide,by rw[bA];decide,_,rfl,?_⟩⟩;rw[jM];have I:SO H (upd H2 st (.tup [.str "still"])) ds u f (X++Y):=⟨kp G.f L,G.same.trans (ab.new L),G.nd,G.new,G.sound⟩;have bn:H st=none:=G.same.free L;generalize upd H2 st (.tup [.str "still"])=H3 at I ⊢;by_cases c2:v.sg=bx;rotate_left
   ·rw[zzr0 c2];exact bt (bt (B H3 _ _ _ _ _ rfl I (fun _ h=>h) fun _ e=>absurd e c2))
   rw[zzr1 c2];refine bG ?_;refine⟨_,rfl,_,rfl,fG v.b,(u++(X++Y)).map fG,f,_,tD _,rfl,.inl (ay.of I.f),pq _,(by show 0<=8;decide),by rw[jv];decide,_,rfl,?_⟩;rw[if_pos rfl];by_cases c3:v.b∈u++(X++Y)
   ·rw[zzr1 (uv.mpr c3)];exact bt (B H3 _ _ _ _ _ rfl I (fun _ h=>h) fun _ _=>c3)
   rw[zzr0 (fun z=>c3 (uv.mp z))];refine bG ?_;refine⟨_,rfl,.inl ⟨rfl,_,ay.of I.f⟩,_,rfl,f,_,_,rfl,rfl,I.f,by rw[ah,aO];exact ic (by omega),?_⟩;have an:(⟨here,bx,v.b⟩:ao)∈ds:=by
    have:v=⟨here,bx,v.b⟩:=by cases v;simp only at c1 c2;rw[c1,c2]
    rw[<-this];exact a4
   refine B _ (X++(Y++[v.b])) _ _ _ _ rfl ⟨?_,?_,?_,?_,?_⟩ ?_ ?_
   ·rw[aa];have:u++(X++(Y++[v.b]))=u++(X++Y)++[v.b]:=by simp
    rw[this,ax (l₂:=[v.b])]
    rfl
   ·intro b o q;rw[ai (ae q hf)];exact I.same _ _ q
   ·rw[<-fS,d7];refine⟨I.nd,by simp,fun a ha b hb e=>?_⟩;have:b=v.b:=by simpa using hb
    exact c3 (dP _ (by rw[<-this,<-e];exact ha))
   ·intro y hy;rw[<-fS]at hy;rcases bL.mp hy with hy|hy
    ·exact I.new y hy
    ·have:y=v.b:=by simpa using hy
     rw[this];exact fun z=>c3 (dz _ z)
   ·intro y hy;rw[<-fS]at hy;rcases bL.mp hy with hy|hy
    ·exact I.sound y hy
    ·have:y=v.b:=by simpa using hy
     rw[this];exact(U D.sound (bQ J)).step an
   ·intro y hy;rw[<-fS];exact dz _ hy
   ·intro _ _;exact dP _ (by simp)
  ·rintro σ H2 ⟨N,Y,a9,ba,bc,rfl,rfl,G,A⟩;rw[ah,Paired.length ap,bb]at A;refine⟨_,rfl,_,_,rfl,rfl,X++Y,_,_,_,rfl,G,?_,fun i y hi hy c hc=>?_⟩
   ·rw[<-fS,aO];omega
   ·by_cases e:i=p
    ·subst e;rw[<-fS,u4 C,J]at hy;have:=f6 hy;subst this;exact A _ hc rfl rfl
    ·have bh:i<p:=by omega
     rw[<-fS,u4 (by omega)]at hy;have:=as i y bh hy c hc;rw[<-fS];exact dz _ this
 ·have a7:p=(u++X).length:=by
   have:¬(p<(u++X).length):=fun z=>O (zzr1 (by rw[ah];omega));omega
  refine⟨_,rfl,k f (u++X) H1 D.f (fun w=>⟨fun hw=>?_,fun hw=>?_⟩) (by rw[aO];omega) hf D.same⟩
  ·rcases bL.mp hw with hw|hw
   ·exact⟨_,hw,.inl rfl⟩
   ·exact D.sound _ hw
  ·have closed:∀y∈u++X,∀c,(⟨y,bx,c⟩:ao)∈ds->c∈u++X:=fun y hy c hc=>by
    obtain⟨n,hn⟩:=kK hy;exact as n y (by rw[a7];exact(cj.mp hn).1) hn c hc
   obtain⟨g,hg,rfl|h⟩:=hw
   ·exact dz _ hg
   ·induction h with
    |one e=>exact closed _ (dz _ hg) _ e
    |step r e ih=>exact closed _ ih _ e

def ef(ds:List ao)(sg:Zb)(face:Zb):List Str:=face.flatMap fun r=>bR ds (r,sg)
theorem w_{e:List ao}{f a:Zb}{i:Nat}{r:Str}(h:a[i]?=some r):ef e f (a.take (i+1))=ef e f (a.take i)++bR e (r,f):=by
 unfold ef;rw[take_snoc h,List.flatMap_append];simp
theorem tu(a:List ao)(x:Str×List Str):(bR a x).length<=a.length:=by
 unfold bR;rw[ah];exact dk _ _
theorem qS(e:List ao)(f:Zb):∀a:List Str,(ef e f a).length<=a.length * e.length
 |[]=>cL _
 |r::a=>by
  show((bR e (r,f))++ef e f a).length<=(a.length+1) * e.length;rw[aO,fk];have g:=tu e (r,f);have h:=qS e f a;omega
theorem qN{f:List ao}{g a:Zb}{b:Str}:b∈ef f g a↔∃r∈a,(⟨r,g,b⟩:ao)∈f:=by
 unfold ef;rw[List.mem_flatMap];constructor
 ·rintro⟨r,e,h⟩;exact⟨r,e,iG.mp h⟩
 ·rintro⟨r,e,h⟩;exact⟨r,e,iG.mpr h⟩
inductive qk(C:Addr)(vs:List V)(H:Hp)(Q:VK)(E:XK):Prop
 |mk (x t s:Addr) (face sg J0 J2 J4:Zb) (ds:List ao):(vs=[.ref x,.ref t,.ref s])->(bY C H x J0 J2 J4 ds)->(H t=some (.tup (face.map V.str)))->(H s=some (.tup (sg.map V.str)))->(sg≠bX)->(face.length<=1000)->(∀(t':Addr) (F:Zb) (H':Hp),H' t'=some (.tup ((J4.filter fun r=>decide (r∈F)).map V.str))->(∀w,w∈F↔jF ds (ef ds sg face) w)->ab H H'->Q (.ref t') H')->qk C vs H Q E
theorem z0{K:Za}{C N:Addr}(v:∀H,bT K H N (bX.map V.str)){z:Sp}{O:List V}{H:Hp}{Q:VK}{E:XK}(h:qk C O H Q E):
  oy K (sp_with_still C) C (ke C) N z (bq Q) (start oC O) H:=by
 obtain⟨x,t,s,a,j,T,U,A,f,rfl,M,Y,hs,B,hz,k⟩:=h;have D:∀d∈f,d.b∈A:=fun d hd=>(M.ok.good d hd).b;have z4:=M.ok.few;refine⟨_,rfl,fH j,fH bX,bv (bT.of hs),bv (v _),by rw[bA];decide,by rw[bA];decide,_,rfl,?_⟩;rw[jM,zzr0 B];refine bt ?_;refine⟨(by show 0<=aj;decide),fun g G=>?_⟩;refine⟨_,rfl,t,rfl,⟨_,bT.of (kp Y G)⟩,?_⟩
 let I:Nat->L2.St->Hp->Prop:=fun i σ n=>∃J:Option V,σ=[some (.ref x),some (.ref t),some (.ref s),some (.ref g),J]/\n g=some (.lst ((ef f j (a.take i)).map V.str))/\ab H n
 refine E_ (xs:=a.map V.str) I
  ⟨_,rfl,aa,ab.new G⟩ (fun i σ n _ zq=>by obtain⟨_,_,_,S⟩:=zq;exact bT.of (S _ _ Y)) ?_ ?_
 ·rintro i y σ H1 hi ⟨J,rfl,e,m⟩;obtain⟨r,hr,rfl⟩:=cE hi;have M1:=M.same m;obtain⟨dx,fs,o1,o2,o3,o4,lv,qu,al,sl,ts,an,ap,as,g1,a1,a2,a3,a4,_⟩:=M1.at_;refine⟨_,rfl,.inl ⟨rfl,_,ay.of e⟩,_,rfl,x,dx,fs,rfl,g1,a2,_,rfl,_,rfl,x,s,r,j,T,U,A,f,rfl,M1,m _ _ hs,fun l H2 hl fr u=>?_⟩;have L:=u _ _ e;have p:((ef f j (a.take i)).map V.str).length+((bR f (r,j)).map V.str).length<=aj:=by
   rw[ah,ah];have h1:=qS f j (a.take i);have h2:=tu f (r,j);have h3:(a.take i).length * f.length<=1000 * 1000:=Nat.mul_le_mul (by rw[aA];omega) z4;have:(1001000:Nat)<=aj:=by decide
   omega
  refine⟨g,l,_,_,rfl,rfl,L,hl,p,_,rfl,?_,?_⟩
  ·rw[aa,w_ hr,ax]
  ·intro b o q;rw[ai (ae q G)];exact u _ _ (m _ _ q)
 ·rintro σ H1 ⟨J,rfl,e,m⟩;rw[ah,bb]at e;refine⟨_,rfl,_,rfl,x,g,ef f j a,T,U,A,f,rfl,M.same m,e,fun w hw=>?_,fun t' F n h1 h2 u=>k t' F n h1 h2 (m.trans u)⟩;obtain⟨r,_,h⟩:=qN.mp hw;exact D _ h
def zt(K:Za)(sp_with_still:Sp)(C_Machine:Addr)(sp_Machine_rooms:Sp):TS :=
 aQ (aL sp_with_still (aT V0 (wG (lN K) (cz C_Machine "rooms" sp_Machine_rooms [] E0 V0 bp) (c_) (fz (tC (.int 1))))))
def AW:List Str:=["M"]
inductive cu(C:Addr)(vs:List V)(H:Hp)(Q:VK)(E:XK):Prop
 |mk (x:Addr) (J0 J2 J4:Zb) (ds:List ao):(vs=[.ref x])->(bY C H x J0 J2 J4 ds)->(∀(t':Addr) (F:Zb) (H':Hp),H' t'=some (.tup ((J4.filter fun r=>decide (r∈F)).map V.str))->(∀w,w∈F↔jF ds (J4.take 1) w)->ab H H'->Q (.ref t') H')->cu C vs H Q E
theorem wX{K:Za}{C:Addr}{f:List V}{H:Hp}{Q:VK}{E:XK}(h:cu C f H Q E):zt K (sp_with_still C) C (mx C) (bq Q) (start AW f) H:=by
 obtain⟨x,i,j,a,m,rfl,M,k⟩:=h;obtain⟨o,fs,I,J,L,N,O,T,p,U,Y,q,r,s,t,a1,a2,a3,u,_⟩:=M.at_;have v:gq (a.map V.str) none (some 1)=(a.take 1).map V.str:=Az a 1;refine⟨_,rfl,_,rfl,x,o,fs,rfl,t,u,x,i,j,a,m,rfl,M,fun n e=>⟨_,rfl,n,_,rfl,ay.of aa,fun l w=>?_⟩⟩;rw[v];have S:ab H (upd (upd H n (.lst (a.map V.str))) l (.lst ((a.take 1).map V.str))):=(ab.new e).trans (ab.new w);exact⟨x,l,a.take 1,i,j,a,m,rfl,M.same S,aa,fun g y=>gQ y,fun z F A B D G=>k z F A B D (S.trans G)⟩
theorem Ay(o:Str)(L:Zb):decide (fG o∈L.map fG)=decide (o∈L):=by
 by_cases c:o∈L
 ·rw[zzr1 (uv.mpr c),zzr1 c]
 ·rw[zzr0 (fun z=>c (uv.mp z)),zzr0 c]
theorem bT.same{K:Za}{H e:Hp}{a:Addr}{f:List V}(S:ab H e)(h:bT K H a f):bT K e a f:=by
 rcases h with(h|⟨o,h⟩)|h
 ·exact .inl (.inl (S _ _ h))
 ·exact .inl (.inr ⟨o,S _ _ h⟩)
 ·exact .inr h
open Classical in
def closF(J4:Zb)(ds:List ao)(gs:Zb):List Str:=J4.filter fun r=>decide (jF ds gs r)
open Classical in
theorem kD{J4 F a:Zb}{e:List ao}(f:∀w,w∈F↔jF e a w):J4.filter (fun r=>decide (r∈F))=closF J4 e a:=by
 unfold closF;refine List.filter_congr fun r _=>?_;by_cases c:r∈F
 ·rw[zzr1 c,zzr1 ((f r).mp c)]
 ·rw[zzr0 c,zzr0 fun z=>c ((f r).mpr z)]
open Classical in
theorem Cq{J4 i a:Zb}{f:List ao}(h:∀g,g∈i↔g∈a):closF J4 f i=closF J4 f a:=by
 have:∀r,jF f i r↔jF f a r:=fun r=>⟨fun⟨g,j,e⟩=>⟨g,(h g).mp j,e⟩,fun⟨g,j,e⟩=>⟨g,(h g).mpr j,e⟩⟩;unfold closF;refine List.filter_congr fun r _=>?_;by_cases c:jF f i r
 ·rw[zzr1 c,zzr1 ((this r).mp c)]
 ·rw[zzr0 c,zzr0 fun z=>c ((this r).mpr z)]
theorem nK{J4 a:Zb}{e:List ao}:∀r∈closF J4 e a,r∈J4:=fun r h=>(fZ.mp h).1
theorem kC{a e:Zb}{f:List ao}:(closF a f e).length<=a.length:=dk _ _
def behF(J4:Zb)(ds:List ao)(face sg:Zb):List Str:=if sg=bX then face.filter (fun r=>decide (r∉gZ ds))else closF J4 ds (ef ds sg face)
theorem mQ{J4 a e:Zb}{f:List ao}(g:∀r∈a,r∈J4):∀r∈behF J4 f a e,r∈J4:=by
 intro r h;unfold behF at h;split at h
 ·exact g r (fZ.mp h).1
 ·exact nK r h
theorem jx{e a f:Zb}{g:List ao}(h:e.length<=1000)(i:a.length<=1000):(behF e g a f).length<=1000:=by
 unfold behF;split
 ·exact aD (dk _ _) i
 ·exact aD kC h
theorem HZ{g:Zb}{a:List ao}{e:Zb}(f:∀r∈e,r∈g):(e.filter fun r=>decide (r∈g.filter (gU a)))=e.filter fun r=>decide (r∉gZ a):=by
 refine List.filter_congr fun r h=>?_;rw[<-Dp];cases q:gU a r with
 |true=>exact zzr1 (fZ.mpr ⟨f r h,q⟩)
 |false=>exact zzr0 (fun z=>by rw[(fZ.mp z).2]at q;cases q)
inductive ur(K:Za)(C:Addr)(vs:List V)(H:Hp)(Q:VK)(E:XK):Prop
 |mk (x t s:Addr) (face sg J0 J2 J4:Zb) (ds:List ao):(vs=[.ref x,.ref t,.ref s])->(bY C H x J0 J2 J4 ds)->(H t=some (.tup (face.map V.str)))->(bT K H s (sg.map V.str))->((sg=bX∨H s=some (.tup (sg.map V.str))))->((∀r∈face,r∈J4))->(face.length<=1000)->(∀(t':Addr) (H':Hp),H' t'=some (.tup ((behF J4 ds face sg).map V.str))->ab H H'->Q (.ref t') H')->ur K C vs H Q E
theorem Kj{K:Za}{C I:Addr}(j:∀H,bT K H I (bX.map V.str)){e:List V}{H:Hp}{Q:VK}{E:XK}(h:ur K C e H Q E):
  oy K (sp_with_still C) C (ke C) I (jI C) (bq Q) (start oC e) H:=by
 obtain⟨x,t,s,a,J,L,N,p,u,rfl,M,w,hs,y,l,hz,k⟩:=h;by_cases v:J=bX;rotate_left
 ·refine z0 (E:=E) j ⟨x,t,s,a,J,L,N,p,u,rfl,M,w,y.resolve_left v,v,hz,fun z F g h1 hF S=>k z g ?_ S⟩;rw[h1,kD hF];unfold behF;rw[if_neg v]
 subst v;refine⟨_,rfl,fH bX,fH bX,bv hs,bv (j _),by rw[bA];decide,by rw[bA];decide,_,rfl,?_⟩;rw[zzr1 rfl];refine bG ?_;refine⟨_,rfl,t,rfl,⟨_,bT.of w⟩,fun f O=>?_⟩
 let A:Nat->List V->Hp->Prop:=fun i e g=>e=((a.take i).filter fun r=>decide (r∈p.filter (gU u))).map V.str/\ab H g/\g f=some (.lst e)
 refine mP (xs:=a.map V.str) A ⟨rfl,ab.new O,aa⟩ (fun i e g _ zq=>by obtain⟨_,S,h'⟩:=zq;exact⟨h',bT.of (S _ _ w)⟩) ?_ ?_
 ·rintro e g ⟨rfl,S,m⟩;rw[ah,bb]at m;refine⟨f,_,rfl,.inl ⟨ay.of m,fun z B=>k z _ ?_ (S.trans (ab.new B))⟩⟩;rw[aa,HZ l];unfold behF;rw[if_pos rfl]
 ·rintro i e g x' D T ⟨rfl,S,m⟩;obtain⟨r,U,rfl⟩:=cE D;have Y:=M.same S;obtain⟨dx,fs,o1,o2,o3,o4,lv,qu,al,sl,ts,an,ap,as,g1,a1,_⟩:=Y.at_;refine gN ?_;refine⟨_,rfl,x,dx,fs,rfl,g1,a1,_,rfl,x,r,L,N,p,u,rfl,Y,_,rfl,?_⟩;have n:(((a.take i).filter fun r=>decide (r∈p.filter (gU u))).map V.str).length<aj:=by
   rw[ah];refine ar (aD (dk _ _) ?_);rw[aA];omega
  refine mJ (fun G=>?_) (fun G=>?_)
  ·refine⟨_,rfl,m,n,n5 T ⟨?_,?_,aa⟩⟩
   ·rw[cB U,if_pos G,ax];rfl
   ·intro b o q;rw[ai (ae q O)];exact S _ _ q
  ·refine n5 T ⟨?_,S,m⟩;rw[cB U,if_neg G,eZ]
theorem FO{j k l:Zb}{i:ao}(g:Jx j k l i):∃f a,i.sg=f::a/\(!decide (V.str f=V.str ("ask":Str)))=!mK i:=by
 obtain⟨f,a,h⟩:∃f a,i.sg=f::a:=by
  rcases g.sg with⟨w,_,e⟩|⟨w,_,e⟩|e<;>exact⟨_,_,e⟩
 refine⟨f,a,h,?_⟩;unfold mK;rw[h];congr 1;show _=decide (f=("ask":Str));by_cases c:f=("ask":Str)
 ·rw[zzr1 c,zzr1 (by rw[c])]
 ·rw[zzr0 c,zzr0 (fun z=>c (by injection z))]
inductive zU(K:Za)(vs:List V)(H:Hp)(Q:VK)(E:XK):Prop
 |mk (t ft s l1 l2 l3 l4:Addr) (ts:Ze) (J0 J2 J4 face sg:Zb) (ds:List ao):(vs=[.ref t,.ref ft,.ref s])->(h9 H t l1 l2 l3 l4 ts J0 J2 J4 ds)->(cK J0 J2 J4 ds)->(H ft=some (.tup (face.map V.str)))->(bT K H s (sg.map V.str))->(face.length<=1000)->(∀(t':Addr) (H':Hp),H' t'=some (.tup ((behF J4 ds face sg).map V.str))->ab H H'->Q (.ref t') H')->zU K vs H Q E
abbrev mS(H:Hp)(us:Ze)(L:List (List Str)):Prop:=Paired (SignAt H) us L
theorem mS.kt{H H':Hp}{a:Ze}{L:List (List Str)}(k:gg H H')(h:mS H a L):mS H' a L:=Paired.mapP h fun _ _ r=>k _ _ r
theorem DK(L:List (List Str)):DT.depths (L.map fH)<=1:=by
 induction L with
 |nil=>exact cL _
 |cons x a e=>rw[bF];show max (DT.depth (fH x)) (DT.depths _)<=1;rw[bA];omega
def bW(J0 J2:Zb):List (List Str):=J0.map dW++J2.map cO++[bX]
theorem lc{K:Za}{σ:L2.St}{H:Hp}{a l:Addr}{ws:Zb}{kd:Str}{Q:Hp->Prop}(t:H a=some (.lst (ws.map V.str)))(A:ws.length<=1000)(s:H l=none)
  (k:∀(f:Ze) (e:Hp),e l=some (.lst (f.map V.ref))->mS e f (ws.map fun w=>[kd,w])->ab H e->Q e) :
  dJ 1 [] σ (Jw K a) U0 gj (bj (aT (tC (.str kd)) V0)) H l Q:=by
 let m:Nat->List V->Hp->Prop:=fun i g e=>∃f:List Addr,g=f.map V.ref/\ab H e/\e l=some (.lst g)/\mS e f ((ws.take i).map fun w=>[kd,w])
 refine cF (xs:=ws.map V.str) m ⟨[],rfl,ab.new s,aa,.nil⟩ (fun i g e _ v=>by obtain⟨_,_,S,n,_⟩:=v;exact⟨n,ay.of (S _ _ t)⟩) ?_ ?_
 ·rintro g e ⟨f,rfl,S,n,h⟩;rw[ah,bb]at h;exact k f e n h S
 ·rintro i g e B p x ⟨f,rfl,S,r,h⟩;obtain⟨w,y,rfl⟩:=cE p;refine gN (oS ?_);refine⟨_,rfl,(by show 2<=aj;decide),fun u j=>⟨kp r j,?_,n5 x ⟨f++[u],by rw[ax];rfl,?_,aa,?_⟩⟩⟩
  ·rw[ah,Paired.length h,ah,aA];exact ar (by omega)
  ·intro b o q;rw[ai (ae q s)];exact kp (S _ _ q) j
  ·rw[take_snoc y,ax];have z:gg e (upd (upd e u (.tup [.str kd,.str w])) l (.lst (f.map V.ref++[.ref u]))):=(ab.kt (ab.new j)).trans (dO (kp r j));exact d_ (mS.kt z h) ((dO (kp r j)) _ _ aa)
theorem pr(a:List V)(k:Nat):gq a (some (k:Int)) none=a.drop k:=by
 unfold gq;rw[HT.sIx_none,HT.sIx_nat,uP (by rw[eF];omega)];by_cases h:k<=a.length
 ·rw[uL h]
 ·rw[Nat.min_eq_right (by omega),rA (by simp),rA (by omega)]
theorem Paired.takeP{α β:Type}{R:α->β->Prop}:∀(n:Nat) {a:List α}{e:List β},Paired R a e->Paired R (a.take n) (e.take n)
 |0,_,_,_=>by rw[uH,uH];exact .nil
 |_+1,_,_,.nil=>.nil
 |n+1,_,_,.cons r t=>.cons r (Paired.takeP n t)
theorem Paired.dropP{α β:Type}{R:α->β->Prop}:∀(n:Nat) {a:List α}{e:List β},Paired R a e->Paired R (a.drop n) (e.drop n)
 |0,_,_,h=>h
 |_+1,_,_,.nil=>.nil
 |n+1,_,_,.cons r t=>Paired.dropP n t
def vf(K:Za):TS :=
 aQ (gk (fB K) (aw (jh K V0 "own_asks")))
def ww:List Str:=["self"]
def ve(K:Za):TS :=
 aQ (gk (fB K) (aw (jh K V0 "own_says")))
def wv:List Str:=["self"]
def rL(K:Za)(C_Machine:Addr)(sp_Machine_asks:Sp)(sp_Machine_says:Sp)(a_HUSH:Addr):TS :=
 aQ (az jC (az jC (cA 1 [] (cr K (cz C_Machine "asks" sp_Machine_asks [] E0 V0 bp)) U0 (gj) (bj (aT (tC (.str "ask")) V0))) (cA 1 [] (cr K (cz C_Machine "says" sp_Machine_says [] E0 V0 bp)) U0 (gj) (bj (aT (tC (.str "say")) V0)))) (cT (aw (tC (.ref a_HUSH)))))
def sF:List Str:=["M"]
def CW(K:Za)(sp_signs_in_order:Sp)(sp_face_behind:Sp):TS :=
 aq (aI (pb) U2)
 (aq (fA (cr K (aL sp_signs_in_order (aw V0))) U3 (aq (aI (aL sp_face_behind (c9 V0 V1 V3)) U4)
 (cG (be (az Ge (gk (ie K) (aw V4)) (tC (.int 0)))) (HB K V2 V3 V4) (bC))))
 (aQ V2))
def DY:List Str:=["M","face","steps","sign","behind"]

theorem ph{C x:Addr}{H:Hp}{k l m:Zb}{n:List ao}(h:bY C H x k l m n):∃(j:Addr) (fs:List (Str×V)) (f g i:Addr) (a:List (Str×Addr)),H x=some (.ins C j fs)/\lk "asks" fs=none/\lk "says" fs=none/\lk "doors_from" fs=none/\lk "is_quiet" fs=none/\lk "own_asks" fs=some (.ref f)/\lk "own_says" fs=some (.ref g)/\lk "leaving" fs=some (.ref i) /\
  H f=some (.lst (k.map V.str))/\H g=some (.lst (l.map V.str))/\a.map (·.1)=m/\H i=some (.dK (eP Sum.inr a))/\(∀x∈a,∃o,H x.2=some (.lst (o.map V.ref))/\fP H o (cR n x.1)):=by
 obtain⟨j,fs,f,g,I,J,i,M,N,O,Q,a,q,r,p,a1,a2,a3,T,s,t,U,Y,u,b6,b7,b8,L,v,w,y,c4,G,d1,d2,d3⟩:=h.at_;obtain⟨z,A,e,B,D,e3,E⟩:=h.more;rw[p]at e;cases e;exact⟨j,fs,f,g,i,a,p,B,D,E,a1,s,t,u,L.a1,L.a2,v,w,y⟩
inductive qq(C:Addr)(vs:List V)(H:Hp)(Q:VK)(E:XK):Prop
 |mk (x:Addr) (J0 J2 J4:Zb) (ds:List ao):(vs=[.ref x])->(bY C H x J0 J2 J4 ds)->(∀l,H l=none->Q (.ref l) (upd H l (.lst (J0.map V.str))))->qq C vs H Q E
theorem Kl{K:Za}{C:Addr}(M:MC K C){a:List V}{H:Hp}{Q:VK}{E:XK}(h:qq C a H Q E):vf K (bq Q) (start ww a) H:=by
 obtain⟨x,m,n,o,p,rfl,h,k⟩:=h;obtain⟨f,fs,e,q,r,g,i,a1,a2,a3,s,j,t,u,l,v,_⟩:=ph h;exact⟨_,rfl,x,C,f,fs,.ref e,rfl,i,M.cls,M.a1,j,.inl ⟨e,_,rfl,.inl (ay.of l),k⟩⟩
inductive m9(C:Addr)(vs:List V)(H:Hp)(Q:VK)(E:XK):Prop
 |mk (x:Addr) (J0 J2 J4:Zb) (ds:List ao):(vs=[.ref x])->(bY C H x J0 J2 J4 ds)->(∀l,H l=none->Q (.ref l) (upd H l (.lst (J2.map V.str))))->m9 C vs H Q E
theorem Kb{K:Za}{C:Addr}(M:MC K C){a:List V}{H:Hp}{Q:VK}{E:XK}(h:m9 C a H Q E):ve K (bq Q) (start wv a) H:=by
 obtain⟨x,m,n,o,p,rfl,h,k⟩:=h;obtain⟨f,fs,q,e,r,g,i,a1,a2,a3,s,t,j,u,v,l,_⟩:=ph h;exact⟨_,rfl,x,C,f,fs,.ref e,rfl,i,M.cls,M.a2,j,.inl ⟨e,_,rfl,.inl (ay.of l),k⟩⟩







abbrev Ey:List V->Hp->VK->Prop:=fun xs H Q=>(∃i,xs=[.int i]/\Q (.int i) H)∨∃k,xs=[.bl k]/\Q (.int (if k then 1 else 0)) H




def lM(K:Za):TS :=
 aq (qw K V0 V1 "machine")
 (qw K V0 (pb) "known")
def lR:List Str:=["self","M"]
def j_(K:Za)(sp_steps_at:Sp):TS :=
 aq (cG (tB (iX K V1 (jh K V0 "known"))) (lH (jh K V0 "known") V1 (aL sp_steps_at (aT (jh K V0 "machine") V1))) (bC))
 (aQ (mw K (jh K V0 "known") V1))
def kE:List Str:=["self","face"]
def zh(K:Za):TS :=
 cG (C2 (be (az HV V0 (tC (.int 0)))) (be (az Ge V0 (tC (.int 4))))) (rS) (bC)
def AR:List Str:=["d"]
def FD(K:Za):TS :=
 aq (aI (tC (.int 1)) U1)
 (aq (fA (cr K V0) U2 (aI (az xA V1 V2) U1))
 (aQ V1))
def GY:List Str:=["numbers","whole","number"]
def tP(K:Za)(C_KnownSteps:Addr)(sp_KnownSteps_init:Sp)(C_Machine:Addr)(sp_Machine_says:Sp):TS :=
 aq (qw K V0 (cA 1 [] (cr K (cz C_Machine "says" sp_Machine_says [] E0 V1 bp)) U0 (gj) (bj (aT (tC (.str "say")) V0))) "says_signs")
 (aq (qw K V0 (xx C_KnownSteps sp_KnownSteps_init [] E0 (aw V1)) "known_steps")
 (qw K V0 (pb) "known_counts"))
def ug:List Str:=["self","M"]
def pZ(K:Za)(C_KnownSteps:Addr)(sp_KnownSteps_steps_from:Sp):TS :=
 aQ (cz C_KnownSteps "steps_from" sp_KnownSteps_steps_from [] E0 (jh K V0 "known_steps") (aw V1))
def re:List Str:=["self","face"]
def tM(K:Za)(a_HUSH:Addr)(C_Made:Addr)(sp_Made_steps_from:Sp):TS :=
 aq (aI (cA 1 [] (IR K (cz C_Made "steps_from" sp_Made_steps_from [] E0 V0 (aw V1))) U0 (be (az r9 (az (t7 K) V0 (tC (.int 0))) (tC (.str "ask")))) V0) U2)
 (aQ (az jC (cA 1 [0] (cr K V2) U0 (gj) (az jC (cT (aw V0)) (jh K V1 "says_signs"))) (cT (ak (az jC (jh K V0 "says_signs") (cT (aw (tC (.ref a_HUSH))))) bp))))
def ud:List Str:=["self","face","asks"]
def tN(K:Za)(sp_product:Sp)(C_Made:Addr)(sp_Made_count_at:Sp)(sp_Made_steps_from:Sp):TS :=
 aq (aI (cz C_Made "steps_from" sp_Made_steps_from [] E0 V0 (aw V1)) U4)
 (aQ (aL sp_product (ak (cA 1 [0,2,4] (cr K V3) U0 (gj) (cz C_Made "count_at" sp_Made_count_at [] E0 V1 (aT (r8 K V3 V0) (az sZ V2 (tC (.int 1)))))) bp)))
def ue:List Str:=["self","face","d","signs","steps"]
def tO(K:Za)(C_Made:Addr)(sp_Made_kinds_at:Sp)(sp_Made_count_of:Sp):TS :=
 aq (cG (C2 (tB (vk V1)) (be (az r9 V2 (tC (.int 0))))) (aQ (tC (.int 1))) (bC))
 (aq (cG (tB (iX K (bj (aT V1 V2)) (jh K V0 "known_counts"))) (aq (aI (cA 1 [1,2,0] (cr K (cz C_Made "kinds_at" sp_Made_kinds_at [] E0 V0 (aw V1))) U0 (gj) (cz C_Made "count_of" sp_Made_count_of [] E0 V3 (c9 V1 V2 V0))) U3)
 (lH (jh K V0 "known_counts") (bj (aT V1 V2)) (az dS (tC (.int 1)) (gk (Lb K) (aw V3))))) (bC))
 (aQ (mw K (jh K V0 "known_counts") (bj (aT V1 V2)))))
def uf:List Str:=["self","face","d","counts"]
def wF(K:Za)(sp_law_still_on:Sp):TS :=
 aq (aI V0 (g6 K 4 (aY U3 (aY U4 (aY U5 (aY U6 (gM)))))))
 (aq (cG (be (az (w6 K) V2 (bj (aw (tC (.str "hush")))))) (aq (aI (cA 1 [] (cr K V6) U0 (be (az Ms (az (dF K) (az (dF K) V0 (tC (.int 1))) (tC (.int 0))) (tC (.str "ask")))) (az (dF K) V0 (tC (.int 0)))) U7)
 (aQ (gk (oz K) (aw (cA 1 [7] (B_ K V1) U0 (be (az (vw K true) V0 V1)) V0))))) (bC))
 (aq (aI (aL sp_law_still_on (ak V6 (ak (cA 1 [1,2] (cr K V6) U0 (Hz (be (az (vw K false) (az (dF K) V0 (tC (.int 0))) V1)) (be (az (w6 K) (az (dF K) V0 (tC (.int 1))) V2))) (az (dF K) V0 (tC (.int 2)))) bp))) U8)
 (aQ (gk (oz K) (aw (cA 1 [8] (cr K V5) U0 (be (az (vw K false) V0 V1)) V0))))))
def xc:List Str:=["told","face","sign","asks","says","rooms","doors","loud","there"]
def Bs(K:Za)(sp_law_still_on:Sp):TS :=
 aq (aI (aL sp_law_still_on (ak (az (t7 K) V0 (tC (.int 3))) (ak (cT (aw (az (t7 K) (az (t7 K) V0 (tC (.int 2))) (tC (.int 0))))) bp))) U1)
 (aQ (gk (oz K) (ak (cA 1 [1] (cr K (az (t7 K) V0 (tC (.int 2)))) U0 (be (az (vw K false) V0 V1)) V0) bp)))
def CI:List Str:=["told","there"]
def rN(K:Za):TS :=
 aq (aI (cA 1 [] (cr K (az (t7 K) V0 (tC (.int 1)))) U0 (gj) (bj (aT (tC (.str "say")) V0))) U2)
 (aq (cG (tB (vk V1)) (aQ (az jC V2 (cT (aw (bj (aw (tC (.str "hush")))))))) (bC))
 (aQ (az jC (cT (aw (bj (aT (tC (.str "ask")) V1)))) V2)))
def sH:List Str:=["told","ask","says"]
def Bu(K:Za)(sp_law_behind:Sp):TS :=
 aq (cG (tB (iX K (bj (aT V2 V3)) V1)) (lH V1 (bj (aT V2 V3)) (aL sp_law_behind (c9 V0 V2 V3))) (bC))
 (aQ (mw K V1 (bj (aT V2 V3))))
def CK:List Str:=["told","known","face","sign"]
def Bt(K:Za)(sp_law_after:Sp):TS :=
 aQ (cA 1 [0,1,2] (cr K (az (t7 K) V0 (tC (.int 0)))) U0 (be (az (LH K) (aL sp_law_after (ak V1 (c9 V2 V3 (bj (aT (tC (.str "ask")) V0))))) (bj (bp)))) V0)
def CJ:List Str:=["told","known","face"]
def Bo(K:Za)(sp_law_part_signs:Sp)(sp_law_count:Sp)(sp_law_after:Sp):TS :=
 aq (aI (cT (bp)) U5)
 (aq (fA (cr K (aL sp_law_part_signs (aT V0 V3))) U6 (dR (Dc K "list" gb V5 (ak (aL sp_law_count (ak V0 (ak V1 (aT (aL sp_law_after (ak V0 (c9 V1 V2 V6))) (az sZ V4 (tC (.int 1))))))) bp))))
 (aQ V5))
def CD:List Str:=["told","known","face","ask","deep","found","sign"]
def Bn(K:Za):TS :=
 aq (aI (tC (.int 1)) U1)
 (aq (fA (cr K V0) U2 (aI (az xA V1 V2) U1))
 (aQ V1))
def CC:List Str:=["numbers","found","number"]
def zr(K:Za)(sp_law_asked:Sp)(sp_law_times:Sp)(sp_law_sizes:Sp):TS :=
 aq (cG (C2 (be (az (w6 K) V2 (bj (bp)))) (be (az r9 V3 (tC (.int 0))))) (aQ (tC (.int 1))) (bC))
 (aq (cG (tB (iX K (bj (aT V2 V3)) V1)) (aq (aI (tC (.int 1)) U4)
 (aq (fA (cr K (az jC (aL sp_law_asked (c9 V0 V1 V2)) (cT (aw (tC .non))))) U5 (aI (az dS V4 (aL sp_law_times (aw (aL sp_law_sizes (ak V0 (ak V1 (c9 V2 V5 V3))))))) U4))
 (lH V1 (bj (aT V2 V3)) V4))) (bC))
 (aQ (mw K V1 (bj (aT V2 V3)))))
def AV:List Str:=["told","known","face","deep","many","ask"]
theorem Ar{n j:Nat}(h:j<n):Hf n (j:Int)=some j:=by
 unfold Hf;rw[if_pos (Int.natCast_nonneg j),if_pos (by omega)]
 rfl
open Classical in
abbrev Sg:=List Str
def stepsF(J0 J2 J4:Zb)(ds:List ao)(face:Zb):List (Sg×List Str):=((bW J0 J2).map fun sg=>(sg,behF J4 ds face sg)).filter fun p=>decide (p.2≠[])
structure FMs where
 fs:List (List Str)
 ss:List (List Sg)
abbrev FMst:=FMs×List (List (Sg×Nat))
def KY(hu:Addr)(H:Hp)(u:Addr)(sg:Zb):Prop:=H u=some (.tup (sg.map V.str))∨(u=hu/\sg=bX)
theorem KY.same{a:Addr}{H e:Hp}{u:Addr}{f:Zb}(h:KY a H u f)(S:ab H e):KY a e u f:=h.imp (S _ _) id
theorem pV{K:Za}{a:Addr}{e:List V}(h:∀H,bT K H a e)(H:Hp):aS K H a e:=by
 rcases h (fun _=>none)with(h|⟨o,h⟩)|h
 ·cases h
 ·cases h
 ·exact .inr h
section
variable{K:Za}{hu:Addr}(hh:∀H,bT K H hu (bX.map V.str))
include hh
theorem KY.tup{H:Hp}{u:Addr}{a:Zb}(h:KY hu H u a):aS K H u (a.map V.str):=by
 rcases h with h|⟨rfl,rfl⟩
 ·exact .inl h
 ·exact pV hh H
theorem KY.sq{H:Hp}{u:Addr}{a:Zb}(h:KY hu H u a):bT K H u (a.map V.str):=by
 rcases h with h|⟨rfl,rfl⟩
 ·exact bT.of h
 ·exact hh H
end
inductive zR(C hu:Addr)(vs:List V)(H:Hp)(Q:VK)(E:XK):Prop
 |mk (x:Addr) (J0 J2 J4:Zb) (ds:List ao):(vs=[.ref x])->(bY C H x J0 J2 J4 ds)->(∀(l:Addr) (us:Ze) (H':Hp),H' l=some (.lst (us.map V.ref))->Paired (KY hu H') us (bW J0 J2)->ab H H'->Q (.ref l) H')->zR C hu vs H Q E
theorem LB{K:Za}{C g:Addr}{D:List V}{H:Hp}{Q:VK}{E:XK}(h:zR C g D H Q E):rL K C (qq C) (m9 C) g (bq Q) (start sF D) H:=by
 obtain⟨x,l,m,G,I,rfl,M,k⟩:=h;have z1:=M.ok.asks4;have z2:=M.ok.says4;obtain⟨n,fs,U,Y,lv,p,q,a1,a2,_⟩:=ph M;refine⟨_,rfl,x,n,fs,rfl,q,a1,x,l,m,G,I,rfl,M,fun J s=>⟨J,rfl,⟨_,ay.of aa⟩,fun la t=>?_⟩⟩;have L:ab H (upd H J (.lst (l.map V.str))):=ab.new s;refine lc (kd:="ask") (ws:=l) aa (by omega) t fun u N h1 a O=>?_;have M1:=M.same (L.trans O);obtain⟨n,fs,U,Y,lv,p,q,a1,a2,_⟩:=ph M1;refine⟨_,rfl,x,n,fs,rfl,q,a2,x,l,m,G,I,rfl,M1,fun T v=>⟨T,rfl,⟨_,ay.of aa⟩,fun ls w=>?_⟩⟩;have S2:ab N (upd N T (.lst (m.map V.str))):=ab.new v;refine lc (kd:="say") (ws:=m) aa (by omega) w fun y H2 h2 e S3=>?_;have f:=S2.trans S3;have z:=f _ _ h1;have i:=mS.kt (ab.kt f) a;refine⟨la,ls,_,_,rfl,rfl,z,h2,?_,fun c1 A=>?_⟩
 ·rw[ah,ah,Paired.length a,Paired.length e,ah,ah];exact cW (ar (by omega))
 refine⟨(by show 1<=aj;decide),fun hl j=>?_⟩;refine⟨c1,hl,_,_,rfl,rfl,kp aa j,aa,?_,fun r hr=>?_⟩
 ·rw[aO,ah,ah,Paired.length a,Paired.length e,ah,ah];exact cW (ar (by show _+1<=1000;omega))
 have B:=((ab.new (o:=.lst (u.map V.ref++y.map V.ref)) A).trans (ab.new (o:=.lst [.ref g]) j)).trans (ab.new (o:=.lst (u.map V.ref++y.map V.ref++[.ref g])) hr);refine k r (u++y++[g]) _ ?_ ?_ (((L.trans O).trans f).trans B)
 ·rw[aa,ax,ax];rfl
 ·exact Paired.app (Paired.app (Paired.mapP (mS.kt (ab.kt B) i) fun _ _ r=>.inl r) (Paired.mapP (mS.kt (ab.kt B) e) fun _ _ r=>.inl r)) (.cons (.inr ⟨rfl,rfl⟩) .nil)
theorem vM{i j n:Zb}{o:List ao}(m:cK i j n o):(bW i j).Nodup:=by
 unfold bW;have p:∀a b:Str,dW a=dW b->a=b:=fun a b h=>by unfold dW at h;injection h with _ h;injection h
 have q:∀a b:Str,cO a=cO b->a=b:=fun a b h=>by unfold cO at h;injection h with _ h;injection h
 have k:∀{f:Str->List Str}{l:Zb},(∀a b,f a=f b->a=b)->l.Nodup->(l.map f).Nodup:=by
  intro f l r s;rw[yE,List.pairwise_map];exact(yE.1 s).imp fun h e=>h (r _ _ e)
 rw[d7,d7];refine⟨⟨k p m.okA.1,k q m.okS.1,?_⟩,by simp,?_⟩
 ·intro x hx y g e;obtain⟨a,_,rfl⟩:=aV.1 hx;obtain⟨b,_,rfl⟩:=aV.1 g;unfold dW cO at e;injection e with e _;exact absurd e (by decide)
 ·intro x hx y g e;rw[eE.1 g]at e;rcases bL.1 hx with hx|hx
  ·obtain⟨a,_,rfl⟩:=aV.1 hx;unfold dW bX at e;injection e with _ e;cases e
  ·obtain⟨a,_,rfl⟩:=aV.1 hx;unfold cO bX at e;injection e with _ e;cases e
abbrev mR(H:Hp)(kvs:List (TK×V))(L:List (Sg×List Str)):Prop:=Paired (fun(kv:TK×V) (p:Sg×List Str)=>kv.1=fX p.1/\∃u,kv.2=.ref u/\H u=some (.tup (p.2.map V.str))) kvs L
theorem JK{κ:Type}[DecidableEq κ]{a:List (κ×V)}{k:κ}(h:∀e∈a,e.1≠k):bu a k=none:=by
 unfold bu;rw[List.find?_eq_none.2 fun e f=>by simpa using h e f]
 rfl
theorem eg(e:Zb):(fX e).depth<=8:=by
 have:∀l:List Str,TK.depths (l.map qv)=0:=by
  intro l
  induction l with
  |nil=>rfl
  |cons a l f=>show max (TK.depth (qv a)) (TK.depths _)=0;rw[f];rfl
 show TK.depths (e.map qv)+1<=8;rw[this];decide
def stG(J4:Zb)(ds:List ao)(face:Zb)(L:List (List Str)):List (Sg×List Str):=(L.map fun sg=>(sg,behF J4 ds face sg)).filter fun p=>decide (p.2≠[])
theorem BD(e:Zb)(f:List ao)(a:Zb)(L:List (List Str))(g:Zb):stG e f a (L++[g])=stG e f a L++if behF e f a g=[]then[]else[(g,behF e f a g)]:=by
 unfold stG;rw[ax,jd];congr 1;by_cases c:behF e f a g=[]
 ·rw[if_pos c];simp[c]
 ·rw[if_neg c];simp[c]
theorem JV{e:Zb}{f:List ao}{a:Zb}{L:List (List Str)}{p:Sg×List Str}(h:p∈stG e f a L):p.1∈L:=by
 obtain⟨i,g,rfl⟩:=aV.1 (fZ.1 h).1;exact g
theorem JW{J4:Zb}{ds:List ao}{face:Zb}{L:List (List Str)}:(stG J4 ds face L).length<=L.length:=by
 unfold stG;exact aD (dk _ _) (by rw[ah];exact aB _)
theorem mR.kt{H H':Hp}{a:List (TK×V)}{L:List (Sg×List Str)}(k:gg H H')(h:mR H a L):mR H' a L:=Paired.mapP h fun _ _ ⟨e,u,f,r⟩=>⟨e,u,f,k _ _ r⟩
theorem mR.no{H:Hp}{f:List (TK×V)}{L:List (Sg×List Str)}(h:mR H f L){g:Sg}(n:∀p∈L,p.1≠g):bu f (fX g)=none:=by
 refine JK ?_
 induction h with
 |nil=>intro i hk;exact nomatch hk
 |@cons a b l bs r t j =>
  intro i hk;rcases cn.1 hk with rfl|hk
  ·rw[r.1];exact fun e=>n b dQ (fL e)
  ·exact j (fun p k=>n p (dY _ k)) i hk
theorem Ah{α:Type}{L:List α}(g:L.Nodup){i:Nat}{x:α}(e:L[i]?=some x):¬x∈L.take i:=by
 intro h;obtain⟨j,k,a⟩:=List.getElem_of_mem h;rw[aA]at k;have f:i<L.length:=by rcases Nat.lt_or_ge i L.length with z|z;exact z;rw[yV z]at e;cases e
 rw[List.getElem_take]at a;rw[bM f]at e;injection e with e;exact List.pairwise_iff_getElem.1 (yE.1 g) j i (by omega) f (by omega) (a.trans e.symm)
theorem LS{H:Hp}{d:Addr}{a:List (TK×V)}{o:HO}(h:H d=some (.dT a)):gg H (upd H d o):=fun b f e=>by rw[ai (fun z=>by rw[z,h]at e;cases e)];exact e
theorem ifQ{b:Bool}{P X Y:Prop}(h:b=true↔P)(a:P->X)(e:¬P->Y):if b=true then X else Y:=by
 cases b with
 |true=>exact a (h.1 rfl)
 |false=>exact e fun z=>by cases h.2 z
inductive kO(C:Addr)(vs:List V)(H:Hp)(Q:VK)(E:XK):Prop
 |mk (x t:Addr) (face J0 J2 J4:Zb) (ds:List ao):(vs=[.ref x,.ref t])->(bY C H x J0 J2 J4 ds)->(H t=some (.tup (face.map V.str)))->((∀r∈face,r∈J4))->(face.length<=1000)->(∀(d:Addr) (kvs:List (TK×V)) (H':Hp),H' d=some (.dT kvs)->mR H' kvs (stepsF J0 J2 J4 ds face)->H d=none->ab H H'->Q (.ref d) H')->kO C vs H Q E
theorem Dj{K:Za}{C T:Addr}(hh:∀H,bT K H T (bX.map V.str)){vs:List V}{H:Hp}{Q:VK}{E:XK}(h:kO C vs H Q E):CW K (zR C T) (ur K C) (bq Q) (start DY vs) H:=by
 obtain⟨x,t,face,w,A,J4,ds,rfl,M,ht,B,hz,k⟩:=h;have z1:=M.ok.asks4;have z2:=M.ok.says4;have zl:(bW w A).length<=9:=by unfold bW;rw[aO,aO,ah,ah];show _+1<=9;omega
 have nd:=vM M.ok;refine fun d U=>?_;have S0:ab H (upd H d (.dT [])):=ab.new U;refine⟨_,rfl,x,w,A,J4,ds,rfl,M.same S0,fun l us H1 Y hP N=>⟨l,rfl,⟨_,ay.of Y⟩,?_⟩⟩
 let al:Nat->L2.St->Hp->Prop:=fun i σ D=>Mi fun(g:List (TK×V)) (x3 x4:Option V)=>Jr (σ=[some (.ref x),some (.ref t),some (.ref d),x3,x4]) (D d=some (.dT g)) (ab H D) ((∀b o,H1 b=some o->b≠d->D b=some o)) (mR D g (stG J4 ds face ((bW w A).take i)))
 refine cN (xs:=us.map V.ref) al
  ⟨[],_,_,rfl,N _ _ aa,S0.trans N,fun _ _ e _=>e,.nil⟩ (fun i σ D _ ⟨_,_,_,_,_,_,S,_⟩=>ay.of (S _ _ Y fun e=>by subst e;have:=N _ _ (aa (H:=H) (a:=l) (o:=.dT []));rw[Y]at this;cases this)) ?_ ?_
 ·rintro i y σ H2 hi ⟨g,x3,x4,rfl,h2,s,G,st⟩;obtain⟨u,an,rfl⟩:=bV hi;obtain⟨m,q,ap⟩:=Paired.getL hP an;have j:KY T H2 u m:=ap.imp (fun e=>G _ _ e fun z=>by subst z;have:=N _ _ (aa (H:=H) (a:=u) (o:=.dT []));rw[e]at this;cases this) id;refine⟨_,rfl,_,rfl,_,rfl,x,t,u,face,m,w,A,J4,ds,rfl,M.same s,s _ _ ht,j.sq hh,j.symm.imp (fun e=>e.2) id,B,hz,fun f H3 hf v=>?_⟩;have h3:=v _ _ h2;refine⟨_,rfl,.inl ⟨f,_,rfl,.inr (bT.of hf),_,_,rfl,rfl,?_⟩⟩;refine⟨_,rfl,?_⟩;have I:=j.same v;have J:∀b o,H1 b=some o->b≠d->H3 b=some o:=fun b o e n=>v _ _ (G b o e n);have r:=st.kt (ab.kt v);refine ifQ (P:=behF J4 ds face m≠[]) ?_ (fun c=>?_) (fun c=>?_)
  ·rw[ah];constructor
   ·intro h z;rw[z]at h;exact absurd h (by decide)
   ·intro h;exact zzr1 (by have:=List.length_pos_iff.mpr h;omega)
  rotate_left
  ·have c:=Classical.not_not.1 c;refine⟨g,_,_,rfl,h3,s.trans v,J,?_⟩;rw[take_snoc q,BD,if_pos c,eZ];exact r
  ·have no:bu g (fX m)=none:=r.no fun p hp e=>by
    have O:=JV hp;rw[e]at O;exact Ah nd q O
   have ll:g.length<aj:=by
    rw[Paired.length st];refine ar ?_;have O:=JW (J4:=J4) (ds:=ds) (face:=face) (L:=(bW w A).take i);rw[aA]at O;omega
   refine⟨_,rfl,_,rfl,_,rfl,d,u,g,fX m,rfl,rfl,h3,Hy (I.tup hh),eg m,ll,_,_,_,rfl,aa,?_,?_,?_⟩
   ·intro b o e;rw[ai (ae e U)];exact v _ _ (s _ _ e)
   ·intro b o e n;rw[ai n];exact J b o e n
   ·rw[jp _ no,take_snoc q,BD,if_neg c];have kt:gg H3 (upd H3 d (.dT (g++[(fX m,.ref f)]))):=LS h3;exact d_ (r.kt kt) ⟨rfl,f,rfl,kt _ _ hf⟩
 ·rintro σ H2 ⟨g,x3,x4,rfl,h2,s,_,st⟩;rw[ah,Paired.length hP,bb]at st;exact⟨_,rfl,k d g H2 h2 st U s⟩
abbrev dH(K:Za)(H:Hp)(w:Addr)(s:List Sg):Prop:=∃gs:List Addr,H w=some (.lst (gs.map V.ref))/\Paired (fun g (sg:Sg)=>aS K H g (sg.map V.str)) gs s
theorem aS.kt{K:Za}{H e:Hp}{a:Addr}{f:List V}(k:gg H e)(h:aS K H a f):aS K e a f:=h.keeps k
theorem dH.kt{K:Za}{H a:Hp}{w:Addr}{s:List Sg}(k:gg H a)(e:∀o,H w=some o->a w=some o)(h:dH K H w s):dH K a w s:=by
 obtain⟨f,g,i⟩:=h;exact⟨f,e _ g,Paired.mapP i fun _ _ r=>aS.kt k r⟩
theorem xv{K:Za}{H:Hp}:∀{e:Zb}{a:List V},TKCs K H (e.map qv) a->a=e.map V.str
 |[],a,h=>by rw[yX]at h;unfold TKCs at h;exact h
 |s::e,a,h=>by
  rw[bF]at h;unfold TKCs at h;obtain⟨v,i,rfl,f,g⟩:=h;unfold qv tG at f;rw[f,xv g]
  rfl
theorem Hv{K:Za}{H:Hp}{e:Zb}{a:V}(h:tG K H (fX e) a):∃b,a=.ref b/\aS K H b (e.map V.str):=by
 unfold fX tG at h;obtain⟨b,i,rfl,f,g⟩:=h;rw[xv g]at f;exact⟨b,rfl,f⟩
theorem Eu{K:Za}{H:Hp}:∀a:List Str,TKIns K H (a.map qv) (a.map V.str)
 |[]=>by show TKIns K H [] [];unfold TKIns;rfl
 |x::a=>by
  rw[bF,bF];unfold TKIns;refine⟨_,_,rfl,?_,Eu a⟩;unfold qv n6
  rfl
theorem aS.sq{K:Za}{H:Hp}{a:Addr}{e:List V}(h:aS K H a e):bT K H a e:=h.imp .inl id
theorem pW{K:Za}{H:Hp}{a:Addr}{f:Zb}(h:aS K H a (f.map V.str)):n6 K H (fX f) (.ref a):=by
 unfold fX n6;exact⟨a,_,rfl,aS.sq h,Eu f⟩
theorem Paired.rev{α β:Type}{R:α->β->Prop}:∀{a:List α}{b:List β},Paired R a b->Paired R a.reverse b.reverse
 |_,_,.nil=>.nil
 |_,_,.cons r t=>by
  rw[rF,rF];exact Paired.app (Paired.rev t) (.cons r .nil)
theorem GN{k:Nat}{q:List Nat}{d l:Addr}{o:Obj}{u:HO}{n:Nat}{h:Nat->Hp->V->V->Prop}{g:TG}{r:TT}{s:TE}{σ:L2.St}{t:Hp}{Q:Hp->Prop}(Pv:Nat->List V->Hp->Prop)(A:Pv 0 [] (upd t l (.lst [])))
  (m:∀i e H,i<=n->Pv i e H->H l=some (.lst e)/\H d=some (.frz o u)) (B:∀e H,Pv n e H->Q H)
  (C:∀i e H a b,i<n->Pv i e H->h i H a b->g a (ei k q σ) H fun σ2 D=>r σ2 D fun b w =>
   if b=true then s σ2 w fun v z=>z l=some (.lst e)/\e.length<aj/\∃j,j<n-i/\Wc n Pv (i+1) j (e++[v]) (upd z l (.lst (e++[v])))else ∃j,j<n-i/\Wc n Pv (i+1) j e w) :
  dJ k q σ (Mm d o u n h) g r s t l Q:=by
 refine kB n Pv A (fun i e H f p=>(m i e H f p).1) (fun i e H f p=>⟨(m i e H (cW f) p).2,f⟩) (fun e H p=>⟨⟨(m n e H (aB _) p).2,aB _⟩,B e H p⟩) fun i e H x G f p y=>?_;obtain⟨rfl,b,E⟩:=y;exact C i e _ x b f p E
theorem Paired.mapM{α β:Type}{F G:α->β->Prop}{e:List α}{bs:List β}(g:Paired F e bs)(h:∀a b,a∈e->F a b->G a b):Paired G e bs:=by
 induction g with
 |nil=>exact .nil
 |cons r _ f=>exact .cons (h _ _ dQ r) (f fun a b i=>h a b (dY _ i))
theorem xr{K:Za}{H:Hp}{a:Ze}{s:List Sg}(h:Paired (fun g (e:Sg)=>aS K H g (e.map V.str)) a s):DIns K H (s.map fH) (a.map V.ref):=by
 induction h with
 |nil=>show DIns K H [] [];unfold DIns;rfl
 |cons r _ f =>
  rw[bF,bF];unfold DIns;exact⟨_,_,rfl,bv (aS.sq r),f⟩
theorem mR.find{H:Hp}{sg:Sg}:∀{a:List (TK×V)}{L:List (Sg×List Str)},mR H a L->((∀p∈L,p.1≠sg)/\bu a (fX sg)=none)∨∃p∈L,p.1=sg/\∃u,bu a (fX sg)=some (.ref u)/\H u=some (.tup (p.2.map V.str))
 |_,_,.nil=>.inl ⟨fun _ h=>(nomatch h),rfl⟩
 |kv::_,p::_,.cons ⟨e,u,f,g⟩ t=>by
  by_cases c:p.1=sg
  ·refine .inr ⟨p,dQ,c,u,?_,g⟩;rw[ee (by rw[e,c]),f]
  ·rw[dE (fun z=>c (fL (by rw[<-e,z])))];rcases mR.find t with⟨i,j⟩|⟨q,k,h⟩
   ·exact .inl ⟨fun x l=>(cn.1 l).elim (fun z=>by rw[z];exact c) (i x),j⟩
   ·exact .inr ⟨q,dY _ k,h⟩
theorem mR.look{H:Hp}{a:List (TK×V)}{l m g f:Zb}{i:List ao}(h:mR H a (stepsF l m g i f)){sg:Sg}(n:sg∈bW l m):
  (behF g i f sg=[]/\bu a (fX sg)=none)∨(behF g i f sg≠[]/\∃u,bu a (fX sg)=some (.ref u)/\H u=some (.tup ((behF g i f sg).map V.str))):=by
 rcases mR.find (sg:=sg) h with⟨j,k⟩|⟨p,o,e,u,j,k⟩
 ·refine .inl ⟨?_,k⟩;refine Classical.not_not.1 fun z=>j (sg,behF g i f sg) ?_ rfl;exact fZ.2 ⟨aV.2 ⟨sg,n,rfl⟩,zzr1 z⟩
 ·obtain⟨q,r⟩:=fZ.1 o;obtain⟨s,_,rfl⟩:=aV.1 q;cases e;exact .inr ⟨of_decide_eq_true r,u,j,k⟩
open Builtin.Int (intBits)
def kindsF(J0 J2 J4:Zb)(ds:List ao)(face:Zb):List (List Sg) :=
 ((J0.filter fun a=>decide (behF J4 ds face (dW a)≠[])).map fun a=>dW a::J2.map cO)++[J2.map cO++[bX]]
def f8(l:List Int):Int:=l.foldl (· * ·) 1
def cntM(J0 J2 J4:Zb)(ds:List ao):Nat->List Str->Int
 |0,_=>1
 |d+1,face=>if face=[]then 1 else 1+((kindsF J0 J2 J4 ds face).map fun k=>f8 (k.map fun sg=>cntM J0 J2 J4 ds d (behF J4 ds face sg))).sum
theorem v9(a e f:Zb)(g:List ao):∀d,cntM a e f g d []=1
 |0=>by unfold cntM;rfl
 |d+1=>by unfold cntM;rw[if_pos rfl]
theorem vz(l:List Int)(x:Int):f8 (l++[x])=f8 l * x:=by unfold f8;rw[List.foldl_append];rfl
def bB:Nat->Nat
 |0=>1
 |d+1=>5 * bB d+7
theorem xB{b:Nat}(l:List Int)(h:∀x∈l,intBits x<=b):intBits (f8 l)<=1+l.length * b:=by
 have a:∀n,n<=l.length->intBits (f8 (l.take n))<=1+n * b:=by
  intro n
  induction n with
  |zero=>intro _;show intBits 1<=1+0 * b;have:intBits 1<=1:=(by decide);omega
  |succ n f =>
   intro g;have e:l[n]?=some l[n]:=bM g;rw[take_snoc e,vz];have i:=yC (f (by omega)) (h l[n] (List.getElem_mem _));rw[fk];omega
 have:=a l.length (aB _);rw[bb]at this;exact this
theorem BB{b:Nat}:∀(l:List Int),(∀x∈l,intBits x<=b)->intBits l.sum<=b+l.length
 |[],_=>by show intBits 0<=_;have:intBits 0<=0:=(by decide);omega
 |x::l,h=>by
  rw[oG,gC];have e:=uG (h x dQ) (BB l fun y a=>h y (dY _ a));omega
theorem xL{e J2 J4 face:Zb}{ds:List ao}(f:e.length<=4):(kindsF e J2 J4 ds face).length<=5:=by
 unfold kindsF;rw[aO,ah];have:=dk (fun a=>decide (behF J4 ds face (dW a)≠[])) e;show _+1<=5;omega
theorem sm{J0 f i e:Zb}{j:List ao}{k:List Sg}(h:k∈kindsF J0 f i j e):k.length=f.length+1/\∀g∈k,g∈bW J0 f:=by
 unfold kindsF at h;unfold bW;rcases bL.1 h with h|h
 ·obtain⟨a,l,rfl⟩:=aV.1 h;refine⟨by rw[gC,ah],fun g hs=>?_⟩;rcases cn.1 hs with rfl|hs
  ·exact dz _ (dz _ (lW (fZ.1 l).1))
  ·exact dz _ (dP _ hs)
 ·rw[eE.1 h];refine⟨by rw[aO,ah];rfl,fun g hs=>?_⟩;rcases bL.1 hs with hs|hs
  ·exact dz _ (dP _ hs)
  ·exact dP _ hs
theorem jw{J0 J2 J4:Zb}{ds:List ao}(f:J0.length<=4)(g:J2.length<=4):∀(d:Nat) (face:Zb),intBits (cntM J0 J2 J4 ds d face)<=bB d
 |0,_=>by unfold cntM bB;decide
 |d+1,face=>by
  unfold cntM bB;split
  ·have:intBits 1<=1:=by decide
   omega
  ·have h:∀x∈(kindsF J0 J2 J4 ds face).map (fun k=>f8 (k.map fun a=>cntM J0 J2 J4 ds d (behF J4 ds face a))),intBits x<=1+5 * bB d:=by
    intro x i;obtain⟨k,j,rfl⟩:=aV.1 i;have:=xB (b:=bB d) (k.map fun a=>cntM J0 J2 J4 ds d (behF J4 ds face a)) fun y l=>by
     obtain⟨a,_,rfl⟩:=aV.1 l;exact jw f g d _
    rw[ah,(sm j).1]at this;have e:(J2.length+1) * bB d<=5 * bB d:=c7 _ (by omega);omega
   have e:=BB _ h;rw[ah]at e;have m:=xL (J2:=J2) (J4:=J4) (ds:=ds) (face:=face) f;have n:=uG (show intBits (1:Int)<=1 by decide) e;omega
theorem yk:∀d,d<=4->bB d<=2000:=by
 intro d a
 match d,a with
 |0,_=>decide
 |1,_=>decide
 |2,_=>decide
 |3,_=>decide
 |4,_=>decide
inductive sp_product(vs:List V)(H:Hp)(Q:VK)(E:XK):Prop
 |mk (l:Addr) (ns:List Int) (b:Nat):(vs=[.ref l])->(H l=some (.lst (ns.map V.int)))->(∀x∈ns,intBits x<=b)->(b<=10000)->(ns.length<=1000)->(Q (.int (f8 ns)) H)->sp_product vs H Q E
theorem ints_get{a:List Int}{i:Nat}{x:V}(h:(a.map V.int)[i]?=some x):∃n,a[i]?=some n/\x=.int n:=by
 rw[cC]at h;obtain⟨n,e,rfl⟩:=kH.1 h;exact⟨n,e,rfl⟩
theorem vv{K:Za}{m:List V}{H:Hp}{Q:VK}{E:XK}(h:sp_product m H Q E):FD K (bq Q) (start GY m) H:=by
 obtain⟨l,a,b,rfl,o,q,r,z,k⟩:=h;refine⟨_,rfl,l,rfl,⟨_,ay.of o⟩,?_⟩;refine cN (xs:=a.map V.int) (fun i σ f=>∃g,σ=[some (.ref l),some (.int (f8 (a.take i))),g]/\f=H) ⟨_,rfl,rfl⟩ (fun i σ f _ s=>by obtain⟨_,_,e⟩:=s;exact by rw[e];exact ay.of o) ?_ ?_
 ·rintro i y σ f t ⟨g,rfl,rfl⟩;obtain⟨n,j,rfl⟩:=ints_get t;have u:i<a.length:=(cj.1 j).1;have p:=xB (b:=b) (a.take i) fun x v=>q x (gQ v);rw[aA,uL (by omega)]at p;refine⟨_,rfl,_,rfl,_,_,rfl,rfl,yB p (q n (bQ j)) ?_,?_⟩
  ·have:i * b<=1000 * 10000:=Nat.mul_le_mul (by omega) r;omega
  ·exact⟨_,by rw[take_snoc j,vz];rfl,rfl⟩
 ·rintro σ f ⟨g,rfl,rfl⟩;rw[ah,bb];exact⟨_,rfl,k⟩
theorem HE{K:Za}{a:List V}{H:Hp}{Q:VK}{E:XK}(h:sp_product a H Q E):Bn K (bq Q) (start CC a) H:=vv h
inductive cH(vs:List V)(H:Hp)(Q:VK)(E:XK):Prop
 |mk (d:Nat):(vs=[.int (d:Nat)])->(d<=4)->(Q .non H)->cH vs H Q E
theorem wW{K:Za}{a:List V}{H:Hp}{Q:VK}{E:XK}(h:cH a H Q E):zh K (bq Q) (start AR a) H:=by
 obtain⟨d,rfl,e,k⟩:=h;refine⟨_,rfl,_,_,rfl,rfl,_,rfl,?_⟩;rw[zzr0 (by omega)];refine bt ⟨_,rfl,_,_,rfl,rfl,_,rfl,?_⟩;rw[zzr0 (by omega)];exact bt k
def MB:HO->Bool
 |.dT _=>false
 |.frz _ _=>false
 |_=>true
def Kp(H H':Hp):Prop:=∀b o,H b=some o->MB o=true->H' b=some o
theorem Kp.trans{H f g:Hp}(a:Kp H f)(b:Kp f g):Kp H g:=fun c o e n=>b c o (a c o e n) n
theorem Kp.kt{H a:Hp}(k:Kp H a):gg H a:=fun b f e=>k b _ e rfl
theorem ab.kp{H a:Hp}(S:ab H a):Kp H a:=fun b o e _=>S b o e
theorem Kp.upd{H:Hp}{d:Addr}{o x:HO}(h:H d=some x)(n:MB x=false):Kp H (upd H d o):=fun b u e z=>by
 rw[ai (fun q:b=d=>by rw[q,h]at e;cases e;rw[n]at z;cases z)];exact e
theorem Kp.exB{H a:Hp}{d:Addr}{x:HO}(h:H d=some x)(n:MB x=false)(e:bJ d H a):Kp H a:=fun b u q z=>e b u q fun w=>by
 rw[w,h]at q;cases q;rw[n]at z;cases z
theorem qC{H H':Hp}{d:Addr}{x:HO}(k:∀o,H d=some o->H' d=some o)(h:Rd H d x):Rd H' d x:=h.imp (k _) fun⟨o,e⟩=>⟨o,k _ e⟩
theorem fw{a:List (TK×V)}{k:TK}{v:V}(h:bu a k=some v):(k,v)∈a:=by
 unfold bu at h;obtain⟨p,e,rfl⟩:=kH.1 h;have f:=List.mem_of_find?_eq_some e;have g:decide (p.1=k)=true:=by have:=List.find?_some e;exact this
 rw[<-of_decide_eq_true g];exact f
def Gr(kv kv':List (TK×V)):Prop:=∀k v,bu kv k=some v->bu kv' k=some v
theorem Gr.refl(a:List (TK×V)):Gr a a:=fun _ _ h=>h
theorem Gr.trans{a b c:List (TK×V)}(h:Gr a b)(k:Gr b c):Gr a c:=fun x v e=>k x v (h x v e)
theorem Gr.snoc{a:List (TK×V)}{k:TK}{v:V}(h:bu a k=none):Gr a (a++[(k,v)]):=fun x w e=>by
 rw[<-jp v h,jg,if_neg (fun z=>by rw[z,h]at e;cases e)];exact e
structure KC(K:Za)(C:Addr):Prop where
 cls:Fu K C
 a1:eK K C "machine"
 a2:eK K C "known"
structure Mc(Cm Ck:Addr)(H0:Hp)(y M kd:Addr)(J0 J2 J4:Zb)(ds:List ao):Prop where
 mach:bY Cm H0 M J0 J2 J4 ds
 ob:∃(dy:Addr) (fs:List (Str×V)),H0 y=some (.ins Ck dy fs)/\lk "machine" fs=some (.ref M)/\lk "known" fs=some (.ref kd)/\lk "steps_from" fs=none
 kdn:H0 kd=none
structure jE(H0 H:Hp)(kd:Addr)(kv:List (TK×V))(J0 J2 J4:Zb)(ds:List ao)(n:Nat):Prop where
 same:ab H0 H
 hkd:H kd=some (.dT kv)
 kok:∀p∈kv,∃(face:Zb) (d:Addr) (kvs:List (TK×V)),p=(fX face,.ref d)/\d≠kd/\H0 d=none/\Rd H d (.dT kvs)/\mR H kvs (stepsF J0 J2 J4 ds face)
 len:kv.length<=n
theorem jE.up{g H i:Hp}{kd:Addr}{j:List (TK×V)}{k l m:Zb}{o:List ao}{n:Nat}(h:jE g H kd j k l m o n)(S:ab H i):jE g i kd j k l m o n :=
 ⟨h.same.trans S,S _ _ h.hkd,fun p q=>by obtain⟨f,d,a,e,s,t,r,st⟩:=h.kok p q;exact⟨f,d,a,e,s,t,qC (S d) r,st.kt (ab.kt S)⟩,h.len⟩
theorem jE.more{a H:Hp}{kd:Addr}{e:List (TK×V)}{f g i:Zb}{j:List ao}{n m:Nat}(h:jE a H kd e f g i j n)(l:n<=m):jE a H kd e f g i j m:=⟨h.same,h.hkd,h.kok,aD h.len l⟩
theorem jE.frz{m H:Hp}{kd d:Addr}{o:Obj}{i a:List (TK×V)}{k:TK}{q s t:Zb}{w:List ao}{n:Nat}(h:jE m H kd i q s t w n)(v:bu i k=some (.ref d))(j:H d=some (.dT a)):
  jE m (upd H d (.frz o (.dT a))) kd i q s t w n:=by
 obtain⟨_,D,_,g,y,z,_,_⟩:=h.kok _ (fw v);injection g with _ g;injection g with g;subst g;refine⟨fun b u e=>?_,by rw[ai y.symm];exact h.hkd,fun p A=>?_,h.len⟩
 ·rw[ai (ae e z)];exact h.same _ _ e
 ·obtain⟨f,x,l,e,B,C,r,st⟩:=h.kok p A;refine⟨f,x,l,e,B,C,?_,st.kt (LS j)⟩;by_cases c:x=d
  ·subst c;rcases r with r|⟨E,r⟩
   ·rw[j]at r;cases r;exact .inr ⟨o,aa⟩
   ·rw[j]at r;cases r
  ·exact qC (fun u e=>by rw[ai c];exact e) r
theorem jE.keep{j H:Hp}{kd a:Addr}{o:HO}{g:List (TK×V)}{l m q:Zb}{s:List ao}{n:Nat}(h:jE j H kd g l m q s n)(v:H a=some o)(B:a≠kd)(w:∀k,(k,V.ref a)∉g):jE (upd j a o) H kd g l m q s n:=by
 refine⟨fun b u e=>?_,h.hkd,fun p t=>?_,h.len⟩
 ·by_cases c:b=a
  ·subst c;rw[aa]at e;cases e;exact v
  ·rw[ai c]at e;exact h.same _ _ e
 ·obtain⟨f,x,i,e,y,A,r⟩:=h.kok p t;refine⟨f,x,i,e,y,?_,r⟩;rw[ai (fun z=>w (fX f) (by rw[<-z,<-e];exact t))];exact A
inductive nr(Cm Ck:Addr)(vs:List V)(H:Hp)(Q:VK)(E:XK):Prop
 |mk (H0:Hp) (y M kd u:Addr) (kv:List (TK×V)) (n:Nat) (face J0 J2 J4:Zb) (ds:List ao):(vs=[.ref y,.ref u])->(Mc Cm Ck H0 y M kd J0 J2 J4 ds)->(jE H0 H kd kv J0 J2 J4 ds n)->(H u=some (.tup (face.map V.str)))->(∀r∈face,r∈J4)->(face.length<=1000)->(n<=1000000) ->
  (∀(d:Addr) (kv' kvs:List (TK×V)) (H':Hp),jE H0 H' kd kv' J0 J2 J4 ds (n+1)->bu kv' (fX face)=some (.ref d)->Rd H' d (.dT kvs)->mR H' kvs (stepsF J0 J2 J4 ds face)->bJ kd H H'->Gr kv kv'->Q (.ref d) H')->nr Cm Ck vs H Q E
theorem F1{K:Za}{L q:Addr}(c:KC K q){N:List V}{H:Hp}{Q:VK}{E:XK}(h:nr L q N H Q E):j_ K (kO L) (bq Q) (start kE N) H:=by
 obtain⟨H0,y,M,i,u,m,n,a,O,T,U,Y,rfl,St,j,z,s,hz,hn,k⟩:=h;obtain⟨t,fs,g0,l1,A,l3⟩:=St.ob;have g:=j.same _ _ g0;have tk:n6 K H (fX a) (.ref u):=eR.isIn 8 (eg a) (SignAt.tk z);have D:lS K H i (.ref u) (bu m (fX a)):=.inr ⟨_,_,_,.inl j.hkd,rfl,tk,eg a,rfl⟩;refine⟨_,rfl,_,rfl,y,q,t,fs,.ref i,rfl,g,c.cls,c.a2,A,i,_,rfl,D,_,rfl,?_⟩;cases v:bu m (fX a)with
 |some w =>
  obtain⟨f,d,l,e,n1,n2,r,st⟩:=j.kok _ (fw v);injection e with e1 e2;cases fL e1;subst e2;refine bt ?_;rw[v]at D;exact⟨_,rfl,y,q,t,fs,.ref i,rfl,g,c.cls,c.a2,A,_,rfl,i,_,rfl,D,k d m l H (j.more (by omega)) v r st (bJ.refl _ _) (.refl _)⟩
 |none =>
  refine bG ?_;refine⟨_,rfl,y,q,t,fs,.ref M,rfl,g,c.cls,c.a1,l1,_,rfl,M,u,a,O,T,U,Y,rfl,St.mach.same j.same,z,s,hz,fun d l B hd st dn x=>?_⟩;have C:=j.up x;have G:d≠i:=(ae j.hkd dn).symm;refine⟨_,rfl,y,q,t,fs,.ref i,rfl,x _ _ g,c.cls,c.a2,A,_,rfl,i,_,rfl,.inr ⟨_,fX a,u,C.hkd,rfl,SignAt.tk (x _ _ z),eg a,?_,rfl⟩,?_⟩
  ·have:=j.len;rw[xk];omega
  rw[jp _ v];have kt:gg B (upd B i (.dT (m++[(fX a,.ref d)]))):=LS C.hkd;have v2:bu (m++[(fX a,V.ref d)]) (fX a)=some (.ref d):=by rw[<-jp (.ref d) v,jg,if_pos rfl]
  have D2:jE H0 (upd B i (.dT (m++[(fX a,.ref d)]))) i (m++[(fX a,.ref d)]) O T U Y (n+1):=by
   refine⟨fun b o e=>?_,aa,fun p hp=>?_,?_⟩
   ·rw[ai (ae e St.kdn)];exact C.same _ _ e
   ·rcases bL.1 hp with hp|hp
    ·obtain⟨f,d2,I,e,q1,q2,r,J⟩:=C.kok p hp;exact⟨f,d2,I,e,q1,q2,qC (fun o e=>by rw[ai q1];exact e) r,J.kt kt⟩
    ·rw[eE.1 hp];exact⟨a,d,l,rfl,G,j.same.free dn,.inl (by rw[ai G];exact hd),st.kt kt⟩
   ·rw[aO];show _+1<=_;have:=j.len;omega
  have g5:lS K (upd B i (.dT (m++[(fX a,.ref d)]))) i (.ref u) (some (.ref d)):=.inr ⟨_,fX a,u,.inl aa,rfl,eR.isIn 8 (eg a) (SignAt.tk (kt _ _ (x _ _ z))),eg a,v2.symm⟩;exact⟨_,rfl,y,q,t,fs,.ref i,rfl,D2.same _ _ g0,c.cls,c.a2,A,_,rfl,i,_,rfl,g5,k d _ l _ D2 v2 (.inl (by rw[ai G];exact hd)) (st.kt kt) (fun b o e nb=>by rw[ai nb];exact x _ _ e) (.snoc v)⟩
inductive nn(Ck:Addr)(vs:List V)(H:Hp)(Q:VK)(E:XK):Prop
 |mk (x dx M:Addr):(vs=[.ref x,.ref M])->(H x=some (.ins Ck dx []))->(∀(kd:Addr) (fs:List (Str×V)) (H':Hp),H' x=some (.ins Ck dx fs)->lk "machine" fs=some (.ref M)->lk "known" fs=some (.ref kd)->lk "steps_from" fs=none->H' kd=some (.dT [])->H kd=none->bJ x H H'->Q .non H')->nn Ck vs H Q E
theorem F0{K:Za}{g:Addr}(c:KC K g){l:List V}{H:Hp}{Q:VK}{E:XK}(h:nn g l H Q E):lM K (bq Q) (start lR l) H:=by
 obtain⟨x,m,M,rfl,p,k⟩:=h;refine⟨_,rfl,_,rfl,x,g,m,[],rfl,p,c.cls,c.a1,(by decide),?_⟩;obtain⟨y,u,f,q⟩:=sr "machine" (.ref M) p;rw[<-u];have r:(dA ("machine":Str) (.ref M) []).length<=1:=fC _ _ _;refine fun i a=>⟨_,rfl,x,g,m,_,rfl,kp f a,c.cls,c.a2,by omega,?_⟩;obtain⟨v,w,j,s⟩:=sr "known" (.ref i) (kp (x:=.dT []) f a);rw[<-w];have t:i≠x:=(ae f a).symm;refine k i _ v j ?_ ?_ ?_ (s _ _ aa t) ?_ fun b o e n=>s _ _ (kp (q _ _ e n) a) n
 ·show ia _ _=_;repeat (rw[bP];first|rw[if_pos rfl] | rw[if_neg (by decide +kernel)])
 ·show ia _ _=_;repeat (rw[bP];first|rw[if_pos rfl] | rw[if_neg (by decide +kernel)])
 ·show ia _ _=_;repeat (rw[bP];first|rw[if_pos rfl] | rw[if_neg (by decide +kernel)])
  rfl
 ·cases e:H i with
  |none=>rfl
  |some o=>have:=q _ _ e t;rw[a]at this;cases this
def sD(face:Zb)(d:Nat):TK:=.t [fX face,.k (some (.inl (d:Int)))]
theorem Fi{f g:Zb}{d e:Nat}(h:sD f d=sD g e):f=g/\d=e:=by
 unfold sD at h;injection h with h;injection h with i a;injection a with a _;injection a with a;injection a with a;injection a with a;exact⟨fL i,by omega⟩
theorem eV(f:Zb)(d:Nat):(sD f d).depth<=8:=by
 show max (fX f).depth (max 0 0)+1<=8;rw[j8];decide
structure DC(K:Za)(C:Addr):Prop where
 cls:Fu K C
 a1:eK K C "says_signs"
 a2:eK K C "known_steps"
 a3:eK K C "known_counts"
structure xf(Cm Ck Cd:Addr)(H0:Hp)(x sl y M kd cd:Addr)(us:Ze)(J0 J2 J4:Zb)(ds:List ao):Prop where
 ks:Mc Cm Ck H0 y M kd J0 J2 J4 ds
 ob:∃(dx:Addr) (fs:List (Str×V)),H0 x=some (.ins Cd dx fs)/\lk "says_signs" fs=some (.ref sl)/\lk "known_steps" fs=some (.ref y)/\lk "known_counts" fs=some (.ref cd)/\∀f:Str,f≠"says_signs"->f≠"known_steps"->f≠"known_counts"->lk f fs=none
 hsl:H0 sl=some (.lst (us.map V.ref))
 sg:mS H0 us (J2.map cO)
 cdn:H0 cd=none
 ne:kd≠cd
structure dI(H0 H:Hp)(kd cd:Addr)(kv cv:List (TK×V))(J0 J2 J4:Zb)(ds:List ao)(n:Nat):Prop where
 ks:jE H0 H kd kv J0 J2 J4 ds n
 ncd:∀k,(k,V.ref cd)∉kv
 hcd:H cd=some (.dT cv)
 cok:∀p∈cv,∃(face:Zb) (d:Nat),p=(sD face d,.int (cntM J0 J2 J4 ds d face))
 clen:cv.length<=n
section
variable{H0 H H1 H':Hp}{kd cd d:Addr}{o:Obj}{kv cv kvs:List (TK×V)}{k:TK}{J0 J2 J4:Zb}{ds:List ao}{n m:Nat}
theorem jE.weak(S:ab H0 H1)(h:jE H1 H kd kv J0 J2 J4 ds n):jE H0 H kd kv J0 J2 J4 ds n :=
 ⟨S.trans h.same,h.hkd,fun p a=>by obtain⟨f,d,kvs,e,g,i,r⟩:=h.kok p a;exact⟨f,d,kvs,e,g,S.free i,r⟩,h.len⟩
theorem dI.up(h:dI H0 H kd cd kv cv J0 J2 J4 ds n)(S:ab H H'):dI H0 H' kd cd kv cv J0 J2 J4 ds n:=⟨h.ks.up S,h.ncd,S _ _ h.hcd,h.cok,h.clen⟩
theorem jE.cell{f:Addr}{i ys:List V}(h:jE H0 H kd kv J0 J2 J4 ds n)(j:H0 f=none)(a:H f=some (.lst i)):jE H0 (L2.upd H f (.lst ys)) kd kv J0 J2 J4 ds n :=
 ⟨fun b o e=>by rw[ai (ae e j)];exact h.same _ _ e,by rw[ai (fun z=>by have:=h.hkd;rw[z,a]at this;cases this)];exact h.hkd,fun p l=>by
  obtain⟨g,d,kvs,e,q,s,r,st⟩:=h.kok p l;refine⟨g,d,kvs,e,q,s,qC (fun o e=>?_) r,st.kt (dO a)⟩;rw[ai (fun z=>by rw[z]at r;rcases r with r|⟨_,r⟩<;>(rw[a]at r;cases r))];exact e,h.len⟩
theorem dI.cell{f:Addr}{e ys:List V}(h:dI H0 H kd cd kv cv J0 J2 J4 ds n)(g:H0 f=none)(a:H f=some (.lst e)):dI H0 (L2.upd H f (.lst ys)) kd cd kv cv J0 J2 J4 ds n :=
 ⟨h.ks.cell g a,h.ncd,by rw[ai (fun z=>by have:=h.hcd;rw[z,a]at this;cases this)];exact h.hcd,h.cok,h.clen⟩
theorem dI.more(h:dI H0 H kd cd kv cv J0 J2 J4 ds n)(l:n<=m):dI H0 H kd cd kv cv J0 J2 J4 ds m:=⟨h.ks.more l,h.ncd,h.hcd,h.cok,aD h.clen l⟩
theorem dI.frz(h:dI H0 H kd cd kv cv J0 J2 J4 ds n)(v:bu kv k=some (.ref d))(a:H d=some (.dT kvs)):dI H0 (upd H d (.frz o (.dT kvs))) kd cd kv cv J0 J2 J4 ds n :=
 ⟨h.ks.frz v a,h.ncd,by rw[ai (fun z=>h.ncd k (by rw[z];exact fw v))];exact h.hcd,h.cok,h.clen⟩
end
theorem dH.kp{K:Za}{H a:Hp}{w:Addr}{s:List Sg}(k:Kp H a)(h:dH K H w s):dH K a w s:=by
 obtain⟨e,f,g⟩:=h;exact⟨e,k _ _ f rfl,Paired.mapP g fun _ _ r=>aS.kt k.kt r⟩
inductive ib(Cm Ck Cd:Addr)(vs:List V)(H:Hp)(Q:VK)(E:XK):Prop
 |mk (H0:Hp) (x sl y M kd cd u:Addr) (us:Ze) (kv cv:List (TK×V)) (n:Nat) (face J0 J2 J4:Zb) (ds:List ao):(vs=[.ref x,.ref u])->(xf Cm Ck Cd H0 x sl y M kd cd us J0 J2 J4 ds)->(dI H0 H kd cd kv cv J0 J2 J4 ds n)->(H u=some (.tup (face.map V.str)))->(∀r∈face,r∈J4)->(face.length<=1000)->(n<=1000000) ->
  (∀(d:Addr) (kv' kvs:List (TK×V)) (H':Hp),dI H0 H' kd cd kv' cv J0 J2 J4 ds (n+1)->bu kv' (fX face)=some (.ref d)->Rd H' d (.dT kvs)->mR H' kvs (stepsF J0 J2 J4 ds face)->bJ kd H H'->Gr kv kv'->Q (.ref d) H')->ib Cm Ck Cd vs H Q E
theorem FY{K:Za}{l i m:Addr}(c:DC K m){C:List V}{H:Hp}{Q:VK}{E:XK}(h:ib l i m C H Q E):pZ K i (nr l i) (bq Q) (start re C) H:=by
 obtain⟨j,x,sl,y,M,D,o,u,us,Y,p,n,f,G,I,J,L,rfl,St,a,hu,g,hz,hn,k⟩:=h;obtain⟨dx,fs,g0,l1,l2,l3,l4⟩:=St.ob;obtain⟨N,O,T,m1,m2,U⟩:=id St.ks.ob;have s:ab j (upd j o (.dT p)):=ab.new St.cdn;have t:Mc l i (upd j o (.dT p)) y M D G I J L:=⟨St.ks.mach.same s,⟨N,O,s _ _ T,m1,m2,U⟩,by rw[ai St.ne];exact St.ks.kdn⟩;refine⟨_,rfl,x,m,dx,fs,.ref y,rfl,a.ks.same _ _ g0,c.cls,c.a2,l2,y,N,O,rfl,a.ks.same _ _ T,U,_,rfl,upd j o (.dT p),y,M,D,u,Y,n,f,G,I,J,L,rfl,t,a.ks.keep a.hcd St.ne.symm a.ncd,hu,g,hz,hn,fun d w A H' B v r st ex gr=>?_⟩;refine k d w A H' ⟨B.weak s,fun q hq=>?_,B.same _ _ aa,a.cok,by have:=a.clen;omega⟩ v r st ex gr;obtain⟨_,_,_,e,_,z,_⟩:=B.kok _ hq;injection e with _ e;injection e with e;rw[<-e,aa]at z;cases z
def ju(sg:Sg):Bool:=decide (sg.head?=some ("ask":Str))
theorem pe{J4 face:Zb}{ds:List ao}{g:Str->Sg}{b:Bool}(e:∀a,ju (g a)=b):∀A:List Str,((((A.map g).map fun h=>(h,behF J4 ds face h)).filter fun p=>decide (p.2≠[])).filter fun p=>ju p.1).map (·.1)=if b=true then(A.filter fun a=>decide (behF J4 ds face (g a)≠[])).map g else[]
 |[]=>by cases b<;>rfl
 |a::A=>by
  have f:=pe (J4:=J4) (face:=face) (ds:=ds) e A;rw[bF,bF];by_cases c:behF J4 ds face (g a)=[]
  ·rw[yz (by simp[c]),f,yz (by simp[c])]
  ·rw[yy (by simp[c]),yy (p:=fun a=>decide (behF J4 ds face (g a)≠[])) (by simp[c])];cases b with
   |true=>rw[yy (by exact e a),bF,f];rfl
   |false=>rw[yz (by show ¬ju (g a)=true;rw[e a];decide),f];rfl
def askS(J0 J4:Zb)(ds:List ao)(face:Zb):List Sg:=(J0.filter fun a=>decide (behF J4 ds face (dW a)≠[])).map dW
theorem BC(i j f:Zb)(g:List ao)(e:Zb):((stepsF i j f g e).filter fun p=>ju p.1).map (·.1)=askS i f g e:=by
 unfold stepsF bW;rw[ax,ax,jd,jd,jd,jd,ax,ax,pe (b:=true) (fun a=>by unfold ju dW;rfl),pe (b:=false) (fun a=>by unfold ju cO;rfl)];rw[if_pos rfl,if_neg (by decide)];have:((([bX].map fun h=>(h,behF f g e h)).filter fun p=>decide (p.2≠[])).filter fun p=>ju p.1)=[]:=by
  rw[List.filter_eq_nil_iff];intro p k;obtain⟨h,l,rfl⟩:=aV.1 (fZ.1 k).1;rw[eE.1 l];show ¬ju bX=true
  decide
 rw[this,eZ];show _++[]=_;rw[eZ];rfl
theorem JX{g i:Zb}{f:Sg}(h:f∈bW g i):∃j e,f=j::e:=by
 unfold bW at h;rcases bL.1 h with h|h
 ·rcases bL.1 h with h|h
  ·obtain⟨a,_,rfl⟩:=aV.1 h;exact⟨_,_,rfl⟩
  ·obtain⟨a,_,rfl⟩:=aV.1 h;exact⟨_,_,rfl⟩
 ·rw[eE.1 h];exact⟨_,_,rfl⟩
theorem FM{a e f face:Zb}{g:List ao}(m:cK a e f g):(stepsF a e f g face).length<=9:=by
 have h:=m.asks4;have i:=m.says4;unfold stepsF;refine aD (dk _ _) ?_;unfold bW;rw[ah,aO,aO,ah,ah];show _+1<=9;omega
abbrev Fo(K:Za)(H:Hp)(us:Ze)(L:List Sg):Prop:=Paired (fun s (sg:Sg)=>aS K H s (sg.map V.str)) us L
theorem Fo.kt{K:Za}{H a:Hp}{e:Ze}{L:List Sg}(k:gg H a)(h:Fo K H e L):Fo K a e L:=Paired.mapP h fun _ _ r=>aS.kt k r
theorem ya{K:Za}{σ:L2.St}{H:Hp}{d l:Addr}{o:Obj}{h:List (TK×V)}{v y w face:Zb}{x:List ao}{Q:Hp->Prop}(m:cK v y w x)(Y:H d=some (.frz o (.dT h)))(st:mR H h (stepsF v y w x face))(J:H l=none)
  (k:∀(g:Ze) (f:Hp),f l=some (.lst (g.map V.ref))->Fo K f g (askS v w x face)->ab H f->Q f) :
  dJ 1 [] σ (Mm d o (.dT h) h.length (KI K h)) U0 (be (az r9 (az (t7 K) V0 (tC (.int 0))) (tC (.str "ask")))) V0 H l Q:=by
 have zs:=FM (face:=face) m
 let A:Nat->List V->Hp->Prop:=fun i vs f=>∃g:List Addr,vs=g.map V.ref/\ab H f/\f l=some (.lst vs)/\Fo K f g ((((stepsF v y w x face).take i).filter fun p=>ju p.1).map (·.1))
 refine GN A ⟨[],rfl,ab.new J,aa,.nil⟩ (fun i vs f _ zq=>by obtain⟨_,_,S,n,_⟩:=zq;exact⟨n,S _ _ Y⟩) ?_ ?_
 ·rintro vs f ⟨g,rfl,S,n,r⟩;rw[Paired.length st,bb,BC]at r;exact k g f n r S
 ·rintro i vs f a b L ⟨g,rfl,S,n,r⟩ ⟨B,ek,t⟩;obtain⟨p,C,e,_⟩:=Paired.getL st ek;have e:B=fX p.1:=e;rw[e]at t;obtain⟨s,rfl,M⟩:=Hv t;obtain⟨sg,D,ep⟩:=aV.1 (fZ.1 (bQ C)).1;have N:p.1=sg:=by rw[<-ep]
  obtain⟨E,O,T⟩:=JX D;have u:=M;rw[N,T]at u;have G:(decide (V.str E=V.str ("ask":Str)))=ju p.1:=by
   unfold ju;rw[N,T];by_cases c:E=("ask":Str)
   ·rw[c];simp
   ·rw[zzr0 (fun z=>c (by injection z)),zzr0 (fun z=>c (by simpa using z))]
  refine gN ?_;refine⟨_,rfl,.inr (.inl ⟨s,_,0,.str E,rfl,rfl,aS.sq u,aN (j:=0) rfl,rfl,_,rfl,?_⟩)⟩;rw[G];refine mJ (fun I=>?_) (fun I=>?_)
  ·refine⟨_,rfl,n,?_,n5 L ⟨g++[s],by rw[ax];rfl,?_,aa,?_⟩⟩
   ·rw[ah,Paired.length r,ah];refine ar (aD (dk _ _) ?_);rw[aA];omega
   ·intro b o q;rw[ai (ae q J)];exact S _ _ q
   ·rw[take_snoc C,jd,ax,yy (by exact I)];have U:gg f (upd f l (.lst (g.map V.ref++[.ref s]))):=dO n;exact d_ (r.kt U) (aS.kt U M)
  ·refine n5 L ⟨g,rfl,S,n,?_⟩;rw[take_snoc C,jd,ax,yz (by exact I)];show Fo K f g (_++[]);rw[eZ];exact r
theorem vN{K:Za}{Cm Ck Cd p:Addr}(c:DC K Cd)(hh:∀H,bT K H p (bX.map V.str)){H0 H:Hp}{x sl y M kd cd u al:Addr}{f as:Ze}{E G I a:Zb}{J:List ao}{Q:VK}{nx:L2.St->Hp->Prop}
  (St:xf Cm Ck Cd H0 x sl y M kd cd f E G I J) (S:ab H0 H) (an:H al=some (.lst (as.map V.ref))) (hA:Fo K H as (askS E I J a))
  (k:∀(l:Addr) (g:Ze) (m:Hp),m l=some (.lst (g.map V.ref))->Paired (dH K m) g (kindsF E G I J a)->ab H m->Q (.ref l) m) :
  (aQ (az jC (cA 1 [0] (cr K V2) U0 (gj) (az jC (cT (aw V0)) (jh K V1 "says_signs"))) (cT (ak (az jC (jh K V0 "says_signs") (cT (aw (tC (.ref p))))) bp)))) { nx:=nx,rt:=Q } [some (.ref x),some (.ref u),some (.ref al)] H:=by
 obtain⟨dx,fs,g0,l1,l2,l3,l4⟩:=St.ob;have mo:=St.ks.mach.ok;have z1:=mo.asks4;have z2:=mo.says4;have zu:f.length<=4:=by rw[Paired.length St.sg,ah];exact z2
 have za:(askS E I J a).length<=4:=by unfold askS;rw[ah];exact aD (dk _ _) z1
 have ap:∀{m:Hp},ab H0 m->Fo K m f (G.map cO):=fun S'=>Paired.mapP (mS.kt (ab.kt S') St.sg) fun _ _ r=>.inl r;refine⟨_,rfl,al,rfl,⟨_,ay.of an⟩,fun N aC=>?_⟩
 let a8:Nat->List V->Hp->Prop:=fun i vs m=>∃g:List Addr,vs=g.map V.ref/\ab H m/\m N=some (.lst vs)/\Paired (dH K m) g (((askS E I J a).take i).map fun sg=>sg::G.map cO)/\∀q∈g,q≠N
 refine cF (xs:=as.map V.ref) a8 ⟨[],rfl,ab.new aC,aa,.nil,fun _ h=>by cases h⟩ (fun i vs m _ zq=>by obtain⟨_,_,S',h',_⟩:=zq;exact⟨h',ay.of (S' _ _ an)⟩) ?_ ?_;rotate_left
 ·rintro i vs w v hv hi ⟨g,rfl,O,h1,hK,nk⟩;obtain⟨s,hs,rfl⟩:=bV hv;obtain⟨sg,a9,ba⟩:=Paired.getL hA hs;refine gN (oS ?_);refine⟨_,rfl,(by show 1<=aj;decide),fun ll bc=>?_⟩;have C:ab w (upd w ll (.lst [.ref s])):=ab.new bc;have a0:upd w ll (.lst [.ref s]) ll=some (.lst [.ref s]):=aa;generalize upd w ll (.lst [.ref s])=z at C a0 ⊢;have A:=(S.trans O).trans C;refine⟨_,rfl,x,Cd,dx,fs,.ref sl,rfl,A _ _ g0,c.cls,c.a1,l1,ll,sl,_,_,rfl,rfl,a0,A _ _ St.hsl,?_,fun D a4=>?_⟩
  ·rw[ah];exact cW (ar (by show 1+_<=1000;omega))
  have S3:ab z (upd z D (.lst ([V.ref s]++f.map V.ref))):=ab.new a4;have c3:upd z D (.lst ([V.ref s]++f.map V.ref)) D=some (.lst ((s::f).map V.ref)):=aa;have nc:D≠N:=(ae (C _ _ h1) a4).symm;generalize upd z D (.lst ([V.ref s]++f.map V.ref))=B at S3 c3 ⊢;have j:=C.trans S3;have bd:=(S.trans O).trans j;have a5:=j _ _ h1;have hk:gg B (upd B N (.lst (g.map V.ref++[.ref D]))):=dO a5;refine⟨a5,?_,n5 hi ⟨g++[D],by rw[ax];rfl,?_,aa,?_,fun q hq=>?_⟩⟩
  ·rw[ah,Paired.length hK,ah,aA];exact ar (by omega)
  ·intro b o q;rw[ai (ae q aC)];exact j _ _ (O _ _ q)
  ·rw[take_snoc a9,ax];have cell:∀{q:Addr}{L:List Sg},q≠N->dH K B q L->dH K (upd B N (.lst (g.map V.ref++[.ref D]))) q L:=fun n h=>h.kt hk fun o e=>by rw[ai n];exact e
   refine d_ ?_ (cell nc ⟨s::f,c3,.cons (aS.kt (ab.kt (O.trans j)) ba) (ap bd)⟩);refine Paired.mapM hK fun q L hq r=>cell (nk q hq) (r.kt (ab.kt j) fun o e=>j _ _ e)
  ·rcases bL.1 hq with hq|hq
   ·exact nk q hq
   ·rw[eE.1 hq];exact nc
 ·rintro vs w ⟨g,rfl,O,h1,hK,_⟩;rw[ah,Paired.length hA,bb]at hK;have T:=S.trans O;refine⟨_,rfl,x,Cd,dx,fs,.ref sl,rfl,T _ _ g0,c.cls,c.a1,l1,(by show 1<=aj;decide),fun hl bf=>?_⟩;have C:ab w (upd w hl (.lst [.ref p])):=ab.new bf;have a6:upd w hl (.lst [.ref p]) hl=some (.lst [.ref p]):=aa;generalize upd w hl (.lst [.ref p])=z at C a6 ⊢;have A:=T.trans C;refine⟨sl,hl,_,_,rfl,rfl,A _ _ St.hsl,a6,?_,fun t bh=>?_⟩
  ·rw[ah];exact cW (ar (by show _+1<=1000;omega))
  have S3:ab z (upd z t (.lst (f.map V.ref++[.ref p]))):=ab.new bh;have c3:upd z t (.lst (f.map V.ref++[.ref p])) t=some (.lst ((f++[p]).map V.ref)):=by rw[aa,ax];rfl
  generalize upd z t (.lst (f.map V.ref++[.ref p]))=B at S3 c3 ⊢;refine⟨(by show 1<=aj;decide),fun ol bi=>?_⟩;have S4:ab B (upd B ol (.lst [.ref t])):=ab.new bi;have a7:upd B ol (.lst [.ref t]) ol=some (.lst [.ref t]):=aa;generalize upd B ol (.lst [.ref t])=H4 at S4 a7 ⊢;have U:=(C.trans S3).trans S4;refine⟨N,ol,_,_,rfl,rfl,U _ _ h1,a7,?_,fun r hr=>?_⟩
  ·rw[ah,Paired.length hK,ah];exact cW (ar (by show _+1<=1000;omega))
  have S5:ab H4 (upd H4 r (.lst (g.map V.ref++[.ref t]))):=ab.new hr;refine k r (g++[t]) _ (by rw[aa,ax];rfl) ?_ ((O.trans U).trans S5);have Y:=U.trans S5;have e:kindsF E G I J a=((askS E I J a).map fun sg=>sg::G.map cO)++[G.map cO++[bX]]:=by
   unfold kindsF askS;rw[jR];rfl
  rw[e];refine d_ (Paired.mapP hK fun _ _ h=>h.kt (ab.kt Y) fun o e=>Y _ _ e) ⟨f++[p],S5 _ _ (S4 _ _ c3),?_⟩;exact Paired.app (ap (T.trans Y)) (.cons (pV hh _) .nil)
inductive i_(K:Za)(Cm Ck Cd:Addr)(vs:List V)(H:Hp)(Q:VK)(E:XK):Prop
 |mk (H0:Hp) (x sl y M kd cd u:Addr) (us:Ze) (kv cv:List (TK×V)) (n:Nat) (face J0 J2 J4:Zb) (ds:List ao):(vs=[.ref x,.ref u])->(xf Cm Ck Cd H0 x sl y M kd cd us J0 J2 J4 ds)->(dI H0 H kd cd kv cv J0 J2 J4 ds n)->(H u=some (.tup (face.map V.str)))->(∀r∈face,r∈J4)->(face.length<=1000)->(n<=1000000) ->
  (∀(l:Addr) (ks:Ze) (kv':List (TK×V)) (H':Hp),H' l=some (.lst (ks.map V.ref))->Paired (dH K H') ks (kindsF J0 J2 J4 ds face)->dI H0 H' kd cd kv' cv J0 J2 J4 ds (n+1)->Kp H H'->Gr kv kv'->Q (.ref l) H')->i_ K Cm Ck Cd vs H Q E
theorem FV{K:Za}{O T s U:Addr}(c:DC K s)(Y:∀H,bT K H U (bX.map V.str)){vs:List V}{H:Hp}{Q:VK}{E:XK}(h:i_ K O T s vs H Q E):tM K U s (ib O T s) (bq Q) (start ud vs) H:=by
 obtain⟨H0,x,sl,y,M,kd,cd,u,us,kv,cv,n,f,J0,J2,J4,ds,rfl,St,t,v,g,hz,hn,k⟩:=h;obtain⟨dx,fs,g0,l1,l2,l3,l4⟩:=St.ob;have mo:=St.ks.mach.ok;refine⟨_,rfl,x,dx,fs,rfl,t.ks.same _ _ g0,l4 "steps_from" (by decide +kernel) (by decide +kernel) (by decide +kernel),_,rfl,H0,x,sl,y,M,kd,cd,u,us,kv,cv,n,f,J0,J2,J4,ds,rfl,St,t,v,g,hz,hn,fun d i j w z v1 a m A gr=>⟨d,j,rfl,?_⟩⟩;have p:Kp H w:=Kp.exB t.ks.hkd rfl A;rcases a with a|⟨o,a⟩
 ·refine .inl ⟨a,fun o l B=>?_⟩;have D2:=z.frz (o:=o) v1 a;have C:Kp w (upd w d (.frz o (.dT j))):=Kp.upd a rfl;refine ya mo aa (m.kt (LS a)) B fun as H2 D G e=>?_;exact vN c Y St (D2.ks.same.trans e) D G fun r I J L N q=>k r I i J L N ((D2.up e).up q) ((p.trans C).trans (ab.kp (e.trans q))) gr
 ·refine .inr ⟨o,a,fun l B=>?_⟩;refine ya mo a m B fun as H2 D G e=>?_;exact vN c Y St (z.ks.same.trans e) D G fun r I J L N q=>k r I i J L N ((z.up e).up q) (p.trans (ab.kp (e.trans q))) gr
def nB:Nat->Nat
 |0=>0
 |d+1=>7+25 * nB d
def Ft(H:Hp)(v:V)(face:Zb):Prop:=(v=.non/\face=[])∨∃u,v=.ref u/\H u=some (.tup (face.map V.str))
inductive gS(Cm Ck Cd:Addr)(D:Nat)(vs:List V)(H:Hp)(Q:VK)(E:XK):Prop
 |mk (H0:Hp) (x sl y M kd cd:Addr) (us:Ze) (v:V) (kv cv:List (TK×V)) (n d:Nat) (face J0 J2 J4:Zb) (ds:List ao):(vs=[.ref x,v,.int (d:Nat)])->(d<=D)->(xf Cm Ck Cd H0 x sl y M kd cd us J0 J2 J4 ds)->(dI H0 H kd cd kv cv J0 J2 J4 ds n)->(Ft H v face)->(v≠.non->face≠[])->(∀r∈face,r∈J4)->(face.length<=1000)->(n+nB d<=1000000) ->
  (∀(kv' cv':List (TK×V)) (H':Hp),dI H0 H' kd cd kv' cv' J0 J2 J4 ds (n+nB d)->Kp H H'->Gr kv kv'->Q (.int (cntM J0 J2 J4 ds d face)) H')->gS Cm Ck Cd D vs H Q E
inductive iE(K:Za)(Cm Ck Cd:Addr)(D:Nat)(vs:List V)(H:Hp)(Q:VK)(E:XK):Prop
 |mk (H0:Hp) (x sl y M kd cd u kl:Addr) (us:Ze) (kv cv:List (TK×V)) (n d:Nat) (kind:List Sg) (face J0 J2 J4:Zb) (ds:List ao):(vs=[.ref x,.ref u,.int ((d+1:Nat)),.ref kl])->(d<=D)->(d<=4)->(xf Cm Ck Cd H0 x sl y M kd cd us J0 J2 J4 ds)->(dI H0 H kd cd kv cv J0 J2 J4 ds n)->(H u=some (.tup (face.map V.str)))->(∀r∈face,r∈J4)->(face.length<=1000)->(dH K H kl kind)->(∀sg∈kind,sg∈bW J0 J2)->(kind.length<=5)->(n+1+5 * nB d<=1000000) ->
  (∀(kv' cv':List (TK×V)) (H':Hp),dI H0 H' kd cd kv' cv' J0 J2 J4 ds (n+1+5 * nB d)->Kp H H'->Gr kv kv'->Q (.int (f8 (kind.map fun sg=>cntM J0 J2 J4 ds d (behF J4 ds face sg)))) H')->iE K Cm Ck Cd D vs H Q E
theorem BK{K:Za}{Cm Ck Cd:Addr}{D:Nat}{q:List V}{H:Hp}{Q:VK}{E:XK}(h:iE K Cm Ck Cd D q H Q E):tN K sp_product Cd (gS Cm Ck Cd D) (ib Cm Ck Cd) (bq Q) (start ue q) H:=by
 obtain⟨H0,x,sl,y,M,kd,cd,u,kl,us,kv,cv,n,d,a,g,J0,J2,L,N,rfl,hD,d4,St,Dy,hu,r,hz,hk,aC,zk,hn,k⟩:=h;obtain⟨dx,fs,g0,l1,l2,l3,l4⟩:=St.ob;have mo:=St.ks.mach.ok;have z1:=mo.asks4;have z2:=mo.says4;have z3:=mo.rooms26;refine⟨_,rfl,x,dx,fs,rfl,Dy.ks.same _ _ g0,l4 "steps_from" (by decide +kernel) (by decide +kernel) (by decide +kernel),_,rfl,H0,x,sl,y,M,kd,cd,u,us,kv,cv,n,g,J0,J2,L,N,rfl,St,Dy,hu,r,hz,by omega,fun sd T bi H1 D1 v1 _ _ a0 a4=>?_⟩;have A:Kp H H1:=Kp.exB Dy.ks.hkd rfl a0;obtain⟨ss,a5,B⟩:=hk;have U:=A _ _ a5 rfl;refine⟨_,rfl,kl,rfl,⟨_,ay.of U⟩,fun f hf=>?_⟩
 let a6:Nat->List V->Hp->Prop:=fun i q H'=>JA fun(Y a7:List (TK×V))=>Jr (q=((a.take i).map fun j=>cntM J0 J2 L N d (behF L N g j)).map V.int) (H' f=some (.lst q)) (Kp H1 H') (dI H0 H' kd cd Y a7 J0 J2 L N (n+1+i * nB d)) (Gr T Y)
 refine cF (xs:=ss.map V.ref) a6
  ⟨T,cv,rfl,aa,ab.kp (ab.new hf),(D1.up (ab.new hf)).more (by omega),.refl _⟩ (fun i q H' _ zq=>by obtain⟨_,_,_,h',a8,_,_⟩:=zq;exact⟨h',ay.of (a8 _ _ U rfl)⟩) ?_ ?_
 rotate_left
 ·rintro i q H2 w hw hi ⟨C,G,rfl,f2,l,O,p⟩;obtain⟨s,hs,rfl⟩:=bV hw;obtain⟨j,I,a9⟩:=Paired.getL B hs;have il:i<a.length:=(cj.1 I).1;have al:=aC j (bQ I);have an:aS K H2 s (j.map V.str):=aS.kt (A.trans l).kt a9;obtain⟨f',bl,t,e',_,_,r2,ap⟩:=O.ks.kok _ (fw (p _ _ v1));injection e' with J v;cases fL J;cases v;have gd:lS K H2 sd (.ref s) (bu t (fX j)):=.inr ⟨_,fX j,s,r2,rfl,pW an,eg _,rfl⟩;have bn:(i+1) * nB d=i * nB d+nB d:=fk _ _;have bh:(i+1) * nB d<=5 * nB d:=c7 _ (by omega);refine gN (oS ?_);refine⟨_,rfl,x,dx,fs,rfl,O.ks.same _ _ g0,l4 "count_at" (by decide +kernel) (by decide +kernel) (by decide +kernel),_,rfl,sd,rfl,.inr ⟨_,r2⟩,_,rfl,_,gd,_,rfl,_,_,rfl,rfl,H0,x,sl,y,M,kd,cd,us,(bu t (fX j)).getD .non,C,G,_,d,behF L N g j,J0,J2,L,N,?_,hD,St,O,?_,?_,mQ r,jx (by omega) hz,by omega,fun ba bc H3 D3 as bd=>?_⟩
  ·show[V.ref x,_,V.int (((d+1:Nat):Int)-1)]=_;rw[show(((d+1:Nat):Int)-1)=(d:Nat) by omega]
  ·rcases ap.look al with⟨J,v⟩|⟨J,u2,v,e3⟩
   ·rw[J,v];exact .inl ⟨rfl,rfl⟩
   ·rw[v];exact .inr ⟨u2,rfl,e3⟩
  ·rcases ap.look al with⟨J,v⟩|⟨J,u2,v,e3⟩
   ·rw[v];exact fun z=>absurd rfl z
   ·exact fun _=>J
  have f3:=as _ _ f2 rfl;refine⟨f3,?_,n5 hi ⟨ba,bc,?_,aa,?_,?_,p.trans bd⟩⟩
  ·rw[ah,ah,aA];exact ar (by omega)
  ·rw[take_snoc I,ax,ax];rfl
  ·exact fun b o e no=>by rw[ai (ae e hf)];exact as _ _ (l _ _ e no) no
  ·exact(D3.more (m:=n+1+(i+1) * nB d) (by omega)).cell (D1.ks.same.free hf) f3
 ·rintro q H2 ⟨C,G,rfl,f2,l,O,p⟩;rw[ah,Paired.length B,bb]at f2;rw[ah,Paired.length B]at O;have m5:a.length * nB d<=5 * nB d:=c7 _ zk;refine⟨f,_,bB d,rfl,f2,fun z bf=>?_,by have:=yk d d4;omega,by rw[ah];omega,k C G H2 (O.more (by omega)) (A.trans l) (a4.trans p)⟩;obtain⟨j,_,rfl⟩:=aV.1 bf;exact jw z1 z2 d _
theorem BZ{a:List (TK×V)}{k:TK}{v:V}{p:TK×V}(h:p∈eG a k v):p∈a∨p=(k,v):=by
 unfold eG at h;split at h
 ·obtain⟨q,f,rfl⟩:=aV.1 h;split
  ·next e=>exact .inr (by rw[e])
  ·exact .inl f
 ·rcases bL.1 h with h|h
  ·exact .inl h
  ·exact .inr (eE.1 h)
theorem sC{H:Hp}{p u:Addr}{a:Zb}{d:Nat}(e:H p=some (.tup [.ref u,.int (d:Nat)]))(f:H u=some (.tup (a.map V.str))):eR H (sD a d) (.ref p):=by
 unfold sD eR;refine⟨p,_,rfl,e,?_⟩;unfold TKAts;refine⟨_,_,rfl,SignAt.tk f,?_⟩;unfold TKAts;refine⟨_,_,rfl,by unfold eR;rfl,by unfold TKAts;rfl⟩
section
variable{H0 H:Hp}{kd cd:Addr}{kv cv:List (TK×V)}{J0 J2 J4 face:Zb}{ds:List ao}{n d:Nat}{w:V}
theorem dI.val(h:dI H0 H kd cd kv cv J0 J2 J4 ds n)(v:bu cv (sD face d)=some w):w=.int (cntM J0 J2 J4 ds d face):=by
 obtain⟨f,e,q⟩:=h.cok _ (fw v);injection q with a g;obtain⟨rfl,rfl⟩:=Fi a;exact g
theorem dI.put(h:dI H0 H kd cd kv cv J0 J2 J4 ds n)(i:H0 cd=none)(ne:kd≠cd):dI H0 (upd H cd (.dT (eG cv (sD face d) (.int (cntM J0 J2 J4 ds d face))))) kd cd kv (eG cv (sD face d) (.int (cntM J0 J2 J4 ds d face))) J0 J2 J4 ds (n+1):=by
 refine⟨⟨fun b o e=>by rw[ai (ae e i)];exact h.ks.same _ _ e,by rw[ai ne];exact h.ks.hkd,fun p a=>?_,Nat.le_succ_of_le h.ks.len⟩,h.ncd,aa,fun p a=>?_,aD (gI _ _ _) (yv h.clen)⟩
 ·obtain⟨g,d,f,e,j,k,r,st⟩:=h.ks.kok p a;exact⟨g,d,f,e,j,k,qC (fun o q=>by rw[ai (fun z=>h.ncd (fX g) (by rw[<-z,<-e];exact a))];exact q) r,st.kt (LS h.hcd)⟩
 ·rcases BZ a with a|rfl
  ·exact h.cok p a
  ·exact⟨_,_,rfl⟩
end
theorem HM{K:Za}{Cm Ck B:Addr}(c:DC K B){D:Nat}{al:Sp}(d5:D<=4)(hO:∀m,D=m+1->al=iE K Cm Ck B m){C:List V}{H:Hp}{Q:VK}{E:XK}(h:gS Cm Ck B D C H Q E):tO K B (i_ K Cm Ck B) al (bq Q) (start uf C) H:=by
 obtain⟨H0,x,sl,y,M,kd,s,us,v,kv,cv,n,d,face,j,J2,J4,ds,rfl,hD,St,Dy,hv,L,G,hz,hn,k⟩:=h;obtain⟨dx,fs,g0,l1,l2,l3,l4⟩:=St.ob;have mo:=St.ks.mach.ok;have z1:=mo.asks4;have z2:=mo.says4;have one:cntM j J2 J4 ds d face=1->Q (.int 1) H:=fun e=>by
  have:=k kv cv H (Dy.more (by omega)) (fun _ _ e _=>e) (.refl _);rw[e]at this;exact this
 refine⟨_,rfl,_,rfl,?_⟩;rcases hv with⟨rfl,rfl⟩|⟨u,rfl,hu⟩
 ·refine bG ?_;refine bG ?_;exact one (v9 _ _ _ _ _)
 have L:=L (by intro z;cases z);refine bt ?_;refine⟨_,rfl,rfl,_,rfl,?_⟩
 match d,hD,hn,k,one with
 |0,_,_,_,one =>
  refine bG ?_;exact one (by unfold cntM;rfl)
 |d+1,hD,hn,k,one =>
 rw[zzr0 (by intro z;injection z with z;omega)];refine bt ?_;obtain⟨m,rfl⟩:∃m,D=m+1:=⟨D-1,by omega⟩;cases hO m rfl;have eq:cntM j J2 J4 ds (d+1) face=1+((kindsF j J2 J4 ds face).map fun k=>f8 (k.map fun sg=>cntM j J2 J4 ds d (behF J4 ds face sg))).sum:=by
  conv=>lhs;unfold cntM
  rw[if_neg L]
 have nb:nB (d+1)=7+25 * nB d:=rfl;have an:∀{g r:List (TK×V)}{H':Hp}{σ3:Option V},dI H0 H' kd s g r j J2 J4 ds (n+nB (d+1))->Kp H H'->Gr kv g->bu r (sD face (d+1))=some (.int (cntM j J2 J4 ds (d+1) face))->(aQ (mw K (jh K V0 "known_counts") (bj (aT V1 V2)))) (bq Q) [some (.ref x),some (.ref u),some (.int ((d+1:Nat))),σ3] H':=by
  intro g r H' σ3 D' A a5 v';refine⟨_,rfl,x,B,dx,fs,.ref s,rfl,D'.ks.same _ _ g0,c.cls,c.a3,l3,_,rfl,_,rfl,(by show 2<=aj;decide),fun p hp=>?_⟩;have S:ab H' (upd H' p (.tup [.ref u,.int ((d+1:Nat))])):=ab.new hp;have tk:=sC (d:=d+1) (aa (H:=H') (a:=p)) (S _ _ (A _ _ hu rfl));refine⟨s,_,rfl,.inr ⟨_,sD face (d+1),p,.inl (S _ _ D'.hcd),rfl,eR.isIn 8 (eV _ _) tk,eV _ _,v'.symm⟩,k g r _ (D'.up S) (A.trans (ab.kp S)) a5⟩
 refine⟨_,rfl,_,rfl,(by show 2<=aj;decide),fun p hp=>?_⟩;have S:ab H (upd H p (.tup [.ref u,.int ((d+1:Nat))])):=ab.new hp;have tk:=sC (d:=d+1) (aa (H:=H) (a:=p)) (S _ _ hu);generalize upd H p (.tup [.ref u,.int ((d+1:Nat))])=H1 at S tk ⊢;have D1:=Dy.up S;refine⟨_,rfl,x,B,dx,fs,.ref s,rfl,D1.ks.same _ _ g0,c.cls,c.a3,l3,s,_,rfl,.inr ⟨_,sD face (d+1),p,.inl D1.hcd,rfl,eR.isIn 8 (eV _ _) tk,eV _ _,rfl⟩,_,rfl,?_⟩;cases I:bu cv (sD face (d+1))with
 |some w =>
  refine bt ?_;exact an (D1.more (by omega)) (ab.kp S) (.refl _) (by rw[I,Dy.val I])
 |none =>
  refine bG ?_;refine⟨_,rfl,x,dx,fs,rfl,D1.ks.same _ _ g0,l4 "kinds_at" (by decide +kernel) (by decide +kernel) (by decide +kernel),_,rfl,H0,x,sl,y,M,kd,s,u,us,kv,cv,n,face,j,J2,J4,ds,rfl,St,D1,S _ _ hu,G,hz,by omega,fun l ks ap H2 hl hK D2 as a6=>⟨l,rfl,⟨_,ay.of hl⟩,fun f hf=>?_⟩⟩;have u2:=as _ _ (S _ _ hu) rfl;have kl:=xL (J2:=J2) (J4:=J4) (ds:=ds) (face:=face) z1
  let a7:Nat->List V->Hp->Prop:=fun i C H'=>JA fun(g r:List (TK×V))=>Jr (C=(((kindsF j J2 J4 ds face).take i).map fun k=>f8 (k.map fun sg=>cntM j J2 J4 ds d (behF J4 ds face sg))).map V.int) (H' f=some (.lst C)) (Kp H2 H') (dI H0 H' kd s g r j J2 J4 ds (n+1+i * (1+5 * nB d))) (Gr ap g)
  refine cF (xs:=ks.map V.ref) a7
   ⟨ap,cv,rfl,aa,ab.kp (ab.new hf),(D2.up (ab.new hf)).more (by omega),.refl _⟩ (fun i C H' _ zq=>by obtain⟨_,_,_,h',A,_,_⟩:=zq;exact⟨h',ay.of (A _ _ hl rfl)⟩) ?_ ?_
  rotate_left
  ·rintro i C N w hw hi ⟨O,T,rfl,f3,t,D3,U⟩;obtain⟨q,hq,rfl⟩:=bV hw;obtain⟨aC,Y,a8⟩:=Paired.getL hK hq;have il:i<(kindsF j J2 J4 ds face).length:=(cj.1 Y).1;obtain⟨e1,e2⟩:=sm (bQ Y);have bi:(i+1) * (1+5 * nB d)=i * (1+5 * nB d)+(1+5 * nB d):=fk _ _;have bh:(i+1) * (1+5 * nB d)<=5 * (1+5 * nB d):=c7 _ (by omega);refine gN (oS ?_);refine⟨_,rfl,x,dx,fs,rfl,D3.ks.same _ _ g0,l4 "count_of" (by decide +kernel) (by decide +kernel) (by decide +kernel),_,rfl,_,rfl,_,rfl,H0,x,sl,y,M,kd,s,u,q,us,O,T,_,d,aC,face,j,J2,J4,ds,rfl,by omega,by omega,St,D3,t _ _ u2 rfl,G,hz,a8.kp t,e2,by omega,by omega,fun a9 ba H4 D4 a0 bc=>?_⟩;have f4:=a0 _ _ f3 rfl;refine⟨f4,?_,n5 hi ⟨a9,ba,?_,aa,?_,?_,U.trans bc⟩⟩
   ·rw[ah,ah,aA];exact ar (by omega)
   ·rw[take_snoc Y,ax,ax];rfl
   ·exact fun b o e no=>by rw[ai (ae e hf)];exact a0 _ _ (t _ _ e no) no
   ·exact(D4.more (m:=n+1+(i+1) * (1+5 * nB d)) (by omega)).cell (D2.ks.same.free hf) f4
  ·rintro C N ⟨O,T,rfl,f3,t,D3,U⟩;rw[ah,Paired.length hK,bb]at f3;rw[ah,Paired.length hK]at D3;have m5:(kindsF j J2 J4 ds face).length * (1+5 * nB d)<=5 * (1+5 * nB d):=c7 _ kl;have bd:dI H0 N kd s O T j J2 J4 ds (n+6+25 * nB d):=D3.more (by omega);have J:Kp H N:=(ab.kp S).trans (as.trans t);refine⟨_,rfl,f,_,rfl,ay.of f3,_,_,rfl,rfl,_,rfl,x,B,dx,fs,.ref s,rfl,D3.ks.same _ _ g0,c.cls,c.a3,l3,_,rfl,_,rfl,(by show 2<=aj;decide),fun p2 bf=>?_⟩;have S4:ab N (upd N p2 (.tup [.ref u,.int ((d+1:Nat))])):=ab.new bf;have a4:=sC (d:=d+1) (aa (H:=N) (a:=p2)) (S4 _ _ (J _ _ hu rfl));generalize upd N p2 (.tup [.ref u,.int ((d+1:Nat))])=H4 at S4 a4 ⊢;have D4:=bd.up S4;have cl:=D4.clen;refine⟨s,_,rfl,.inr ⟨_,sD face (d+1),p2,D4.hcd,rfl,a4,eV _ _,by rw[xk];omega,rfl⟩,?_⟩;dsimp only;rw[<-eq];have D5:=D4.put (face:=face) (d:=d+1) St.cdn St.ne;refine an (D5.more (by omega)) ((J.trans (ab.kp S4)).trans (Kp.upd D4.hcd rfl)) (a6.trans U) ?_;rw[jg,if_pos rfl]
def io(H:Hp)(a:Addr):Hp:=fun b=>if b=a then none else H b
theorem gJ(H:Hp)(a:Addr):io H a a=none:=if_pos rfl
theorem fh{H:Hp}{a b:Addr}(h:b≠a):io H a b=H b:=if_neg h
theorem gK{H:Hp}{a:Addr}:ab (io H a) H:=fun b o e=>by
 by_cases c:b=a
 ·rw[c,gJ]at e;cases e
 ·rw[fh c]at e;exact e
theorem Au{f H:Hp}{a:Addr}(S:ab f H)(h:f a=none):ab f (io H a):=fun b o e=>by rw[fh (ae e h)];exact S _ _ e
inductive kg(Cm Ck Cd:Addr)(vs:List V)(H:Hp)(Q:VK)(E:XK):Prop
 |mk (H0:Hp) (x dx M:Addr) (J0 J2 J4:Zb) (ds:List ao):(vs=[.ref x,.ref M])->(H x=some (.ins Cd dx []))->(bY Cm H0 M J0 J2 J4 ds)->(H0 x=none)->(ab H0 H) ->
  (∀(Hs:Hp) (sl y kd cd:Addr) (us:Ze) (H':Hp),xf Cm Ck Cd Hs x sl y M kd cd us J0 J2 J4 ds->dI Hs H' kd cd [] [] J0 J2 J4 ds 0->ab H0 Hs->Q .non H')->kg Cm Ck Cd vs H Q E
theorem FX{K:Za}{Cm t v:Addr}(c:DC K v){vs:List V}{H:Hp}{Q:VK}{E:XK}(h:kg Cm t v vs H Q E):tP K t (nn t) Cm (m9 Cm) (bq Q) (start ug vs) H:=by
 obtain⟨H0,x,Y,M,J0,J2,J4,ds,rfl,hx,MA,al,S0,k⟩:=h;have up:∀{H1 H2:Hp}{o:HO},ab H0 H1->H2=upd H1 x o->ab H0 H2:=fun S e b o q=>by rw[e,ai (ae q al)];exact S _ _ q
 have z2:=MA.ok.says4;have M0:=MA.same S0;obtain⟨dm,fm,o1,o2,lv,bn,g1,a1,a2,_⟩:=ph M0;refine⟨_,rfl,M,dm,fm,rfl,g1,a2,M,J0,J2,J4,ds,rfl,M0,fun w hw=>⟨w,rfl,⟨_,ay.of aa⟩,fun A an=>?_⟩⟩;have Sw:ab H (upd H w (.lst (J2.map V.str))):=ab.new hw;refine lc (kd:="say") (ws:=J2) aa (by omega) an fun us H2 h2 ap S2=>?_;have B:=Sw.trans S2;refine⟨_,rfl,x,v,Y,[],rfl,B _ _ hx,c.cls,c.a1,(by decide),?_⟩;obtain⟨u,e3,j,X3⟩:=sr "says_signs" (.ref A) (B _ _ hx);rw[<-e3];have S3:=up (S0.trans B) e3;have bi:(dA ("says_signs":Str) (.ref A) []).length<=1:=fC _ _ _;have p:A≠x:=fun z=>by rw[z]at h2;rw[B _ _ hx]at h2;cases h2
 have as:=X3 _ _ h2 p;have aC:gg H2 u:=fun b xs e=>X3 _ _ e fun z=>by rw[z,B _ _ hx]at e;cases e
 have a0:=mS.kt aC ap;refine⟨_,rfl,fun y r hy a4 bo=>?_⟩;have S4:ab u (upd (upd u r (.own y)) y (.ins t r [])):=fun b o e=>by rw[ai (ae e hy)];exact kp e a4
 generalize a5:upd (upd u r (.own y)) y (.ins t r [])=H4 at S4 ⊢;have y4:H4 y=some (.ins t r []):=by rw[<-a5];exact aa
 refine⟨y,r,M,rfl,y4,fun kd fy H5 y5 m1 m2 m3 a6 C a7=>⟨rfl,?_⟩⟩;have n3:∀{b:Addr}{o:HO},u b=some o->H5 b=some o:=fun e=>a7 _ _ (S4 _ _ e) (ae e hy);have D:=n3 j;refine⟨_,rfl,x,v,Y,_,rfl,D,c.cls,c.a2,by omega,?_⟩;obtain⟨G,e6,l,X6⟩:=sr "known_steps" (.ref y) D;rw[<-e6];have S6:ab H0 G:=up (fun b o e=>n3 (S3 _ _ e)) e6;have bl:=fC ("known_steps":Str) (.ref y) (dA ("says_signs":Str) (.ref A) []);have I:y≠x:=(ae j hy).symm;have s:kd≠x:=(ae (S4 _ _ j) C).symm;have y6:=X6 _ _ y5 I;have m:=X6 _ _ a6 s;have J:=X6 _ _ (n3 as) p;have a8:gg u G:=fun b xs e=>X6 _ _ (n3 e) fun z=>by rw[z,j]at e;cases e
 have a9:=mS.kt a8 a0;have ba:H0 kd=none:=(S3.trans S4).free C;refine fun g a=>⟨_,rfl,x,v,Y,_,rfl,kp l a,c.cls,c.a3,by omega,?_⟩;obtain⟨i,e8,bc,X8⟩:=sr "known_counts" (.ref g) (kp (x:=.dT []) l a);rw[<-e8];have S8:ab H0 i:=up (S6.trans (ab.new a)) e8;have L:g≠x:=(ae l a).symm;have bd:=X8 _ _ aa L;have n8:∀{b:Addr}{o:HO},G b=some o->b≠x->i b=some o:=fun e n=>X8 _ _ (kp e a) n;have bf:H0 g=none:=S6.free a;have N:kd≠g:=ae m a;have bh:gg G (io (io i kd) g):=fun b xs e=>by
  rw[fh (ae e a),fh (fun z=>by rw[z,m]at e;cases e)];exact n8 e fun z=>by rw[z,l]at e;cases e
 have nd:∀{b:Addr}{o:HO},i b=some o->b≠kd->b≠g->io (io i kd) g b=some o:=fun e n1 n2=>by rw[fh n2,fh n1];exact e
 have O:∀{b:Addr}{o:HO},G b=some o->MB o=true->b≠kd/\b≠g:=fun e n=>⟨fun z=>(by rw[z,m]at e;cases e;cases n),ae e a⟩;have SH:ab H0 (io (io i kd) g):=Au (Au S8 ba) bf;have SS:ab (io (io i kd) g) i:=gK.trans gK;refine k (io (io i kd) g) A y kd g us i ⟨⟨MA.same SH,⟨r,fy,?_,m1,m2,m3⟩,?_⟩,⟨Y,_,nd bc s.symm L.symm,?_,?_,?_,?_⟩,?_,mS.kt bh a9,gJ _ _,N⟩ ⟨⟨SS,n8 m s,fun _ h=>(by cases h),aB _⟩,fun _ h=>(by cases h),bd,fun _ h=>(by cases h),aB _⟩ SH
 ·obtain⟨T,U⟩:=O y6 rfl;exact nd (n8 y6 I) T U
 ·rw[fh N];exact gJ _ _
 ·show ia _ _=_;repeat (rw[bP];first|rw[if_pos rfl] | rw[if_neg (by decide +kernel)])
 ·show ia _ _=_;repeat (rw[bP];first|rw[if_pos rfl] | rw[if_neg (by decide +kernel)])
 ·show ia _ _=_;repeat (rw[bP];first|rw[if_pos rfl] | rw[if_neg (by decide +kernel)])
 ·intro f T U q3;show ia _ _=_;rw[bP,if_neg q3,bP,if_neg U,bP,if_neg T];rfl
 ·obtain⟨T,U⟩:=O J rfl;exact nd (n8 J p) T U
open Classical in
theorem wa{a:Zb}{e:List ao}(h:a≠[]):closF a e (a.take 1)≠[]:=by
 cases a with
 |nil=>exact absurd rfl h
 |cons r f =>
  intro z;have:r∈closF (r::f) e ((r::f).take 1):=fZ.2 ⟨dQ,zzr1 ⟨r,by simp,.inl rfl⟩⟩;rw[z]at this;cases this
theorem Co{K:Za}{v:List Nat}{σ:L2.St}{H:Hp}{a n l:Addr}{g F:Zb}{Q:Hp->Prop}(e:ei 1 v σ=[none,some (.ref n)])(z:H a=some (.lst (g.map V.str)))(p:H n=some (.lst (F.map V.str)))(C:g.length<=1000)(w:H l=none)
  (k:∀f,f l=some (.lst ((g.filter fun r=>decide (r∈F)).map V.str))->ab H f->Q f) :
  dJ 1 v σ (Jw K a) U0 (be (az (vw K false) V0 V1)) V0 H l Q:=by
 let s:Nat->List V->Hp->Prop:=fun i h f=>h=((g.take i).filter fun r=>decide (r∈F)).map V.str/\ab H f/\f l=some (.lst h)
 refine cF (xs:=g.map V.str) s ⟨rfl,ab.new w,aa⟩ (fun i h f _ A=>by obtain⟨_,S,B⟩:=A;exact⟨B,ay.of (S _ _ z)⟩) ?_ ?_
 ·rintro h f ⟨rfl,S,j⟩;rw[ah,bb]at j;exact k f j S
 ·rintro i h f D t x ⟨rfl,S,j⟩;obtain⟨r,y,rfl⟩:=cE t;rw[e];refine gN ?_;refine⟨_,rfl,_,rfl,fG r,F.map fG,n,_,tD r,rfl,.inl (ay.of (S _ _ p)),pq _,(by show 0<=8;decide),by rw[jv];decide,_,rfl,?_⟩;rw[if_neg jc,Ay];have m:(((g.take i).filter fun r=>decide (r∈F)).map V.str).length<aj:=by
   rw[ah];refine ar (aD (dk _ _) ?_);rw[aA];omega
  refine mJ (fun u=>?_) (fun u=>?_)
  ·refine⟨_,rfl,j,m,n5 x ⟨?_,?_,aa⟩⟩
   ·rw[cB y,if_pos u,ax];rfl
   ·intro b o q;rw[ai (ae q w)];exact S _ _ q
  ·refine n5 x ⟨?_,S,j⟩;rw[cB y,if_neg u,eZ]
theorem Kk{K:Za}{l:List V}{H:Hp}{Q:VK}{E:XK}(h:zU K l H Q E):wF K (iD K) (bq Q) (start xc l) H:=by
 obtain⟨t,ft,s,l1,l2,l3,l4,O,J0,J2,J4,e,x,n,rfl,T,m,as,hs,hz,k⟩:=h;have z3:=m.rooms26;have z4:=m.few;refine⟨_,rfl,t,_,rfl,bT.of T.t,rfl,_,_,rfl,_,_,rfl,_,_,rfl,_,_,rfl,rfl,?_⟩;refine⟨_,rfl,(by show 1<=aj;decide),fun hh U=>⟨fH x,fH bX,bv (bT.same (ab.new U) hs),bv (bT.of aa),by rw[bA];decide,by rw[bA];decide,_,rfl,?_⟩⟩;rw[jM];have M:ab H (upd H hh (.tup [.str "hush"])):=ab.new U;generalize upd H hh (.tup [.str "hush"])=H1 at M ⊢;have I:=T.same M;have Y:=M _ _ as;have aC:=bT.same M hs;by_cases c:x=bX
 ·rw[zzr1 c];refine bG ?_;refine⟨_,rfl,l4,rfl,⟨_,ay.of I.a4⟩,fun f hf=>?_⟩
  let a0:Nat->List V->Hp->Prop:=fun i l H'=>l=(gZ (n.take i)).map V.str/\ab H1 H'/\H' f=some (.lst l)
  refine cF (xs:=O.map V.ref) a0 ⟨rfl,ab.new hf,aa⟩ (fun i l H' _ zq=>by obtain⟨_,S,h'⟩:=zq;exact⟨h',ay.of (S _ _ I.a4)⟩) ?_ ?_;rotate_left
  ·rintro i l H' x' y J ⟨rfl,S,A⟩;obtain⟨N,B,rfl⟩:=bV y;obtain⟨w,p,a5⟩:=Paired.getL I.ds B;obtain⟨s',v,C⟩:=a5.kt (ab.kt S);obtain⟨s0,ba,a6,ea⟩:=FO (m.good w (bQ p));unfold SignAt at C;rw[a6]at C;refine gN ?_;refine⟨_,rfl,N,_,1,_,rfl,rfl,bT.of v,rfl,s',_,0,.str s0,rfl,rfl,bT.of C,aN (j:=0) rfl,rfl,_,rfl,?_⟩;rw[ea];refine mJ (fun L=>?_) (fun L=>?_)
   ·refine⟨_,rfl,N,_,0,_,rfl,rfl,bT.of v,rfl,A,?_,n5 J ⟨?_,?_,aa⟩⟩
    ·rw[ah];unfold gZ;rw[ah];refine ar (aD (dk _ _) ?_);rw[aA];omega
    ·rw[xI p,if_pos L,ax];rfl
    ·intro b o q;rw[ai (ae q hf)];exact S _ _ q
   ·refine n5 J ⟨?_,S,A⟩;rw[xI p,if_neg L,eZ]
  rintro l H2 ⟨rfl,S2,f2⟩;rw[ah,Paired.length I.ds,bb]at f2;have al:=S2 _ _ Y;refine⟨_,rfl,ft,rfl,⟨_,bT.of al⟩,fun g hg=>?_⟩
  let a7:Nat->List V->Hp->Prop:=fun i l H'=>l=((e.take i).filter fun r=>decide (r∉gZ n)).map V.str/\ab H2 H'/\H' g=some (.lst l)
  refine mP (xs:=e.map V.str) a7 ⟨rfl,ab.new hg,aa⟩ (fun i l H' _ zq=>by obtain⟨_,S,h'⟩:=zq;exact⟨h',bT.of (S _ _ al)⟩) ?_ ?_
  ·rintro l H' ⟨rfl,S,A⟩;rw[ah,bb]at A;refine⟨g,_,rfl,.inl ⟨ay.of A,fun N B=>k N _ ?_ (((M.trans S2).trans S).trans (ab.new B))⟩⟩;rw[aa];unfold behF;rw[if_pos c]
  ·rintro i l H' x' y J ⟨rfl,S,A⟩;obtain⟨r,hr,rfl⟩:=cE y;refine gN ?_;refine⟨_,rfl,_,rfl,fG r,(gZ n).map fG,f,_,tD r,rfl,.inl (ay.of (S _ _ f2)),pq _,(by show 0<=8;decide),by rw[jv];decide,_,rfl,?_⟩;rw[if_pos rfl,Ay];have ed:(!decide (r∈gZ n))=decide (r∉gZ n):=by simp
   rw[ed];have an:(((e.take i).filter fun r=>decide (r∉gZ n)).map V.str).length<aj:=by
    rw[ah];refine ar (aD (dk _ _) ?_);rw[aA];omega
   refine mJ (fun L=>?_) (fun L=>?_)
   ·refine⟨_,rfl,A,an,n5 J ⟨?_,?_,aa⟩⟩
    ·rw[cB hr,if_pos L,ax];rfl
    ·intro b o q;rw[ai (ae q hg)];exact S _ _ q
   ·refine n5 J ⟨?_,S,A⟩;rw[cB hr,if_neg L,eZ]
 ·rw[zzr0 c];refine bt ?_;refine⟨_,rfl,_,rfl,l4,rfl,⟨_,ay.of I.a4⟩,fun f hf=>?_⟩
  let a8:Nat->List V->Hp->Prop:=fun i l H'=>∃G:List Str,l=G.map V.str/\ab H1 H'/\H' f=some (.lst l)/\G.length<=i/\∀g,g∈G↔∃d∈n.take i,d.a∈e/\d.sg=x/\d.b=g
  refine cF (xs:=O.map V.ref) a8
   ⟨[],rfl,ab.new hf,aa,aB _,fun g=>⟨fun h=>(by cases h),fun⟨_,h,_⟩=>by simp at h⟩⟩ (fun i l H' _ zq=>by obtain⟨_,_,S,h',_⟩:=zq;exact⟨h',ay.of (S _ _ I.a4)⟩) ?_ ?_
  rotate_left
  ·rintro i l H' x' y J ⟨G,rfl,S,A,hl,hG⟩;obtain⟨u,hu,rfl⟩:=bV y;obtain⟨w,p,ap⟩:=Paired.getL I.ds hu;obtain⟨sb,v,C⟩:=ap.kt (ab.kt S);have bc:i<n.length:=(cj.mp p).1;have D:∀g,(∃d∈n.take (i+1),d.a∈e/\d.sg=x/\d.b=g)↔((∃d∈n.take i,d.a∈e/\d.sg=x/\d.b=g)∨(w.a∈e/\w.sg=x/\w.b=g)):=by
    intro g;rw[take_snoc p];simp only[bL,eE,or_and_right,exists_or,exists_eq_left]
   have keep:¬(w.a∈e/\w.sg=x)->∃m',m'<(O.map V.ref).length-i/\Wc (O.map V.ref).length (fun i l H'=>∃G:List Str,l=G.map V.str/\ab H1 H'/\H' f=some (.lst l)/\G.length<=i/\∀g,g∈G↔∃d∈n.take i,d.a∈e/\d.sg=x/\d.b=g) (i+1) m' (G.map V.str) H':=by
    intro z;refine n5 J ⟨G,rfl,S,A,by omega,fun g=>?_⟩;rw[D,hG];exact⟨.inl,fun h=>h.elim id fun h=>absurd ⟨h.1,h.2.1⟩ z⟩
   refine gN ?_;refine⟨_,rfl,u,_,0,_,rfl,rfl,bT.of v,rfl,_,rfl,fG w.a,e.map fG,ft,_,tD _,rfl,.inr (bT.of (S _ _ Y)),pq _,(by show 0<=8;decide),by rw[jv];decide,_,rfl,?_⟩;rw[if_neg jc,Ay];by_cases c1:w.a∈e;rotate_left
   ·rw[zzr0 c1];exact bt (bt (keep fun z=>c1 z.1))
   rw[zzr1 c1];refine bG ?_;refine⟨_,rfl,u,_,1,_,rfl,rfl,bT.of v,rfl,_,rfl,fH w.sg,fH x,bv (bT.of C),bv (bT.same S aC),by rw[bA];decide,by rw[bA];decide,_,rfl,?_⟩;rw[jM];by_cases c2:w.sg=x;rotate_left
   ·rw[zzr0 c2];exact bt (keep fun z=>c2 z.2)
   rw[zzr1 c2];refine bG ?_;refine⟨_,rfl,u,_,2,_,rfl,rfl,bT.of v,rfl,A,by rw[ah];exact ar (by omega),n5 J ⟨G++[w.b],by rw[ax];rfl,?_,aa,by rw[aO];show G.length+1<=i+1;omega,fun g=>?_⟩⟩
   ·intro b o q;rw[ai (ae q hf)];exact S _ _ q
   ·rw[D,<-hG,bL];simp only[eE];exact⟨fun h=>h.imp id fun h=>⟨c1,c2,h.symm⟩,fun h=>h.imp id fun h=>h.2.2.symm⟩
  rintro l H2 ⟨G,rfl,S2,f2,hl,hG⟩;rw[ah,Paired.length T.ds]at hl;rw[ah,Paired.length T.ds,bb]at hG;have T2:=I.same S2;refine⟨l4,f,O,n,G,J4,rfl,T2.a4,T2.ds,f2,fun d hd=>(m.good d hd).b,by omega,by omega,fun th F H3 a9 hF bd fr S3=>?_⟩;have T3:=T2.same S3;refine⟨_,rfl,l3,rfl,⟨_,ay.of T3.a3⟩,fun g hg=>?_⟩;refine Co rfl T3.a3 a9 (by omega) hg fun H4 h4 S4=>?_;refine⟨g,_,rfl,.inl ⟨ay.of h4,fun N B=>k N _ ?_ ((((M.trans S2).trans S3).trans S4).trans (ab.new B))⟩⟩;rw[aa,kD hF];unfold behF;rw[if_neg c]
  suffices e0:closF J4 n G=closF J4 n (ef n x e) by rw[e0]
  refine Cq fun g=>?_;rw[hG,qN];constructor
  ·rintro⟨⟨a,bf,b⟩,hd,h1,h2,h3⟩;simp only at h1 h2 h3;subst h2 h3;exact⟨a,h1,hd⟩
  ·rintro⟨r,hr,h⟩;exact⟨_,h,hr,rfl,rfl⟩
inductive qp(vs:List V)(H:Hp)(Q:VK)(E:XK):Prop
 |mk (t l1 l2 l3 l4:Addr) (ts:Ze) (J0 J2 J4:Zb) (ds:List ao):(vs=[.ref t])->(h9 H t l1 l2 l3 l4 ts J0 J2 J4 ds)->(cK J0 J2 J4 ds)->(∀(t':Addr) (H':Hp),H' t'=some (.tup ((closF J4 ds (J4.take 1)).map V.str))->ab H H'->Q (.ref t') H')->qp vs H Q E
theorem HP{K:Za}{u:List V}{H:Hp}{Q:VK}{E:XK}(h:qp u H Q E):Bs K (iD K) (bq Q) (start CI u) H:=by
 obtain⟨t,U,Y,v,z,A,J0,J2,i,B,rfl,T,m,k⟩:=h;have z3:=m.rooms26;obtain⟨f,w,e⟩:∃f w,i=f::w:=by
  cases e:i with
  |nil=>exact absurd e m.rooms0
  |cons a b=>exact⟨a,b,rfl⟩
 have n:AJ (i.map V.str) 0=some (.str f):=by rw[e];exact aN (j:=0) rfl
 have C:i.take 1=[f]:=by rw[e];rfl
 refine⟨_,rfl,.inr (.inl ⟨t,_,3,_,rfl,rfl,bT.of T.t,rfl,_,rfl,.inr (.inl ⟨t,_,2,_,rfl,rfl,bT.of T.t,rfl,.inl ⟨v,_,0,_,rfl,rfl,ay.of T.a3,n,(by show 1<=aj;decide),fun l D=>?_⟩⟩)⟩)⟩;have o:ab H (upd H l (.lst [.str f])):=ab.new D;have x:upd H l (.lst [.str f]) l=some (.lst ([f].map V.str)):=aa;generalize upd H l (.lst [.str f])=H1 at o x ⊢;have p:=T.same o;refine⟨z,l,A,B,[f],i,rfl,p.a4,p.ds,x,fun d G=>(m.good d G).b,by omega,by show 1<=1000;decide,fun th F H2 q I J fr y=>?_⟩;have r:=p.same y;refine⟨_,rfl,.inr (.inl ⟨t,_,2,_,rfl,rfl,bT.of r.t,rfl,v,rfl,⟨_,ay.of r.a3⟩,fun g L=>?_⟩)⟩;refine Co rfl r.a3 q (by omega) L fun H4 M N=>?_;refine⟨g,_,rfl,.inl ⟨ay.of M,fun O s=>k O _ ?_ (((o.trans y).trans N).trans (ab.new s))⟩⟩;rw[aa,kD I,C]

def lg:Option Str->V
 |none=>.non
 |some a=>.str a
def aP(J2:Zb):Option Str->List Sg
 |none=>J2.map cO++[bX]
 |some a=>dW a::J2.map cO
inductive my(vs:List V)(H:Hp)(Q:VK)(E:XK):Prop
 |mk (t l1 l2 l3 l4:Addr) (ts:Ze) (ask:Option Str) (J0 J2 J4:Zb) (ds:List ao):(vs=[.ref t,lg ask])->(h9 H t l1 l2 l3 l4 ts J0 J2 J4 ds)->(J2.length<=4)->(∀(l:Addr) (us:Ze) (H':Hp),H' l=some (.lst (us.map V.ref))->mS H' us (aP J2 ask)->ab H H'->Q (.ref l) H')->my vs H Q E
theorem HG{K:Za}{y:List V}{H:Hp}{Q:VK}{E:XK}(h:my y H Q E):rN K (bq Q) (start sH y) H:=by
 obtain⟨t,I,B,J,L,M,ask,N,C,O,U,rfl,T,D,k⟩:=h;refine⟨_,rfl,.inr (.inl ⟨t,_,1,_,rfl,rfl,bT.of T.t,rfl,B,rfl,⟨_,ay.of T.a2⟩,fun v w=>?_⟩)⟩;refine lc (kd:="say") (ws:=C) T.a2 (by omega) w fun p g z x A=>?_;have Y:p.length<=4:=by rw[Paired.length x,ah];exact D
 refine⟨_,rfl,_,rfl,?_⟩;cases ask with
 |none =>
  refine bG ⟨_,rfl,(by show 1<=aj;decide),fun e n=>⟨(by show 1<=aj;decide),fun f i=>?_⟩⟩;have l:ab g (upd (upd g e (.tup [.str "hush"])) f (.lst [.ref e])):=(ab.new n).trans (ab.new i);have j:upd (upd g e (.tup [.str "hush"])) f (.lst [.ref e]) e=some (.tup (bX.map V.str)):=kp aa i;have m:upd (upd g e (.tup [.str "hush"])) f (.lst [.ref e]) f=some (.lst [.ref e]):=aa;generalize upd (upd g e (.tup [.str "hush"])) f (.lst [.ref e])=q at l j m ⊢;refine⟨v,f,_,_,rfl,rfl,l _ _ z,m,by rw[ah];exact cW (ar (by show _+1<=1000;omega)),fun r s=>?_⟩;have o:ab q (upd q r (.lst (p.map V.ref++[.ref e]))):=ab.new s;exact k r (p++[e]) _ (by rw[aa,ax];rfl) (Paired.app (mS.kt (ab.kt (l.trans o)) x) (.cons (o _ _ j) .nil)) ((A.trans l).trans o)
 |some a =>
  refine bt ⟨_,rfl,(by show 2<=aj;decide),fun e n=>⟨(by show 1<=aj;decide),fun f i=>?_⟩⟩;have l:ab g (upd (upd g e (.tup [.str "ask",.str a])) f (.lst [.ref e])):=(ab.new n).trans (ab.new i);have j:upd (upd g e (.tup [.str "ask",.str a])) f (.lst [.ref e]) e=some (.tup ((dW a).map V.str)):=kp aa i;have m:upd (upd g e (.tup [.str "ask",.str a])) f (.lst [.ref e]) f=some (.lst [.ref e]):=aa;generalize u:upd (upd g e (.tup [.str "ask",.str a])) f (.lst [.ref e])=q at l j m;have G:=l;refine⟨_,rfl,f,v,_,_,rfl,rfl,(by show upd (upd g e (.tup [.str "ask",.str a])) f (.lst [.ref e]) f=_;exact aa),(by show upd (upd g e (.tup [.str "ask",.str a])) f (.lst [.ref e]) v=_;rw[u];exact l _ _ z),by rw[ah];exact cW (ar (by show 1+_<=1000;omega)),fun r s=>?_⟩
  change upd (upd g e (.tup [.str "ask",.str a])) f (.lst [.ref e]) r=none at s
  show Q (.ref r) (upd (upd (upd g e (.tup [.str "ask",.str a])) f (.lst [.ref e])) r (.lst ([.ref e]++p.map V.ref)));rw[u]at s ⊢;have o:ab q (upd q r (.lst ([.ref e]++p.map V.ref))):=ab.new s;exact k r (e::p) _ aa (.cons (o _ _ j) (mS.kt (ab.kt (l.trans o)) x)) ((A.trans l).trans o)
def A9(face:Zb)(sg:Sg):TK:=.t [fX face,fX sg]
theorem KU{f g:Zb}{a b:Sg}(h:A9 f a=A9 g b):f=g/\a=b:=by
 unfold A9 at h;injection h with h;injection h with i e;injection e with e _;exact⟨fL i,fL e⟩
theorem Fn{f g:Zb}{a:Sg}{d:Nat}(h:A9 f a=sD g d):False:=by
 unfold A9 sD fX at h;injection h with h;injection h with i e;injection e with e _;cases e
theorem kA(f:Zb)(a:Sg):(A9 f a).depth<=8:=by
 show max (fX f).depth (max (fX a).depth 0)+1<=8;rw[j8,j8];decide
theorem DV{H:Hp}{p u s:Addr}{a:Zb}{e:Sg}(f:H p=some (.tup [.ref u,.ref s]))(g:H u=some (.tup (a.map V.str)))(h:H s=some (.tup (e.map V.str))):eR H (A9 a e) (.ref p):=by
 unfold A9 eR;refine⟨p,_,rfl,f,?_⟩;unfold TKAts;refine⟨_,_,rfl,SignAt.tk g,?_⟩;unfold TKAts;exact⟨_,_,rfl,SignAt.tk h,by unfold TKAts;rfl⟩
def Lp(X:TK×V->Prop):Prop:=∀p,X p->(∀f s,p.1≠A9 f s)/\∀f d,p.1≠sD f d
structure eL(X:TK×V->Prop)(H:Hp)(kd:Addr)(kv:List (TK×V))(J0 J2 J4:Zb)(ds:List ao)(n:Nat):Prop where
 hkd:H kd=some (.dT kv)
 kok:∀p∈kv,(∃(face:Zb) (sg:Sg) (u:Addr),p=(A9 face sg,.ref u)/\H u=some (.tup ((behF J4 ds face sg).map V.str)))∨(∃(face:Zb) (d:Nat),p=(sD face d,.int (cntM J0 J2 J4 ds d face)))∨X p
 len:kv.length<=n
section
variable{X:TK×V->Prop}{H H':Hp}{kd f:Addr}{kv:List (TK×V)}{J0 J2 J4 face:Zb}{ds:List ao}{n m:Nat}
theorem eL.kt(h:eL X H kd kv J0 J2 J4 ds n)(e:H' kd=some (.dT kv))(k:gg H H'):eL X H' kd kv J0 J2 J4 ds n:=⟨e,fun p a=>(h.kok p a).imp (fun⟨f,s,u,e,q⟩=>⟨f,s,u,e,k _ _ q⟩) id,h.len⟩
theorem eL.up(h:eL X H kd kv J0 J2 J4 ds n)(S:ab H H'):eL X H' kd kv J0 J2 J4 ds n:=h.kt (S _ _ h.hkd) (ab.kt S)
theorem eL.more(h:eL X H kd kv J0 J2 J4 ds n)(l:n<=m):eL X H kd kv J0 J2 J4 ds m:=⟨h.hkd,h.kok,aD h.len l⟩
theorem eL.cell{e ys:List V}(h:eL X H kd kv J0 J2 J4 ds n)(a:H f=some (.lst e)):eL X (upd H f (.lst ys)) kd kv J0 J2 J4 ds n:=h.kt (by rw[ai (fun z=>by have:=h.hkd;rw[z,a]at this;cases this)];exact h.hkd) (dO a)
theorem eL.put{k:TK}{v:V}(h:eL X H kd kv J0 J2 J4 ds n)(q:(∃(face:Zb) (g:Sg) (u:Addr),(k,v)=(A9 face g,.ref u)/\H u=some (.tup ((behF J4 ds face g).map V.str)))∨(∃(face:Zb) (d:Nat),(k,v)=(sD face d,.int (cntM J0 J2 J4 ds d face)))∨X (k,v)):
  eL X (upd H kd (.dT (eG kv k v))) kd (eG kv k v) J0 J2 J4 ds (n+1):=by
 have kt:gg H (upd H kd (.dT (eG kv k v))):=LS h.hkd;refine⟨aa,fun p a=>?_,aD (gI _ _ _) (yv h.len)⟩;rcases BZ a with a|rfl
 ·exact(h.kok p a).imp (fun⟨f,s,u,e,q⟩=>⟨f,s,u,e,kt _ _ q⟩) id
 ·exact q.imp (fun⟨f,s,u,e,q⟩=>⟨f,s,u,e,kt _ _ q⟩) id
theorem eL.val(i:Lp X){a:Sg}{w:V}(h:eL X H kd kv J0 J2 J4 ds n)(v:bu kv (A9 face a)=some w):∃u,w=.ref u/\H u=some (.tup ((behF J4 ds face a).map V.str)):=by
 rcases h.kok _ (fw v)with⟨f,s,u,e,q⟩|⟨f,d,e⟩|hx
 ·injection e with g j;obtain⟨rfl,rfl⟩:=KU g;exact⟨u,j,q⟩
 ·injection e with g _;exact(Fn g).elim
 ·exact absurd rfl ((i _ hx).1 face a)
theorem eL.cnt(g:Lp X){d:Nat}{w:V}(h:eL X H kd kv J0 J2 J4 ds n)(v:bu kv (sD face d)=some w):w=.int (cntM J0 J2 J4 ds d face):=by
 rcases h.kok _ (fw v)with⟨f,s,u,e,q⟩|⟨f,j,e⟩|hx
 ·injection e with a _;exact(Fn a.symm).elim
 ·injection e with a i;obtain⟨rfl,rfl⟩:=Fi a;exact i
 ·exact absurd rfl ((g _ hx).2 face d)
end
theorem bJ.sameH{p:Addr}{H0 H a:Hp}(S:ab H0 H)(h:H0 p=none)(e:bJ p H a):ab H0 a:=fun b o q=>e b o (S b o q) (ae q h)
theorem ab.exBs{p:Addr}{H a:Hp}(S:ab H a):bJ p H a:=fun b o e _=>S b o e
theorem bJ.trs{p:Addr}{H f g:Hp}(a:bJ p H f)(b:bJ p f g):bJ p H g:=fun c o e n=>b c o (a c o e n) n
theorem bJ.ktd{p:Addr}{H a:Hp}{f:List (TK×V)}(h:H p=some (.dT f))(e:bJ p H a):gg H a:=fun b g q=>e b _ q fun z=>by rw[z,h]at q;cases q
inductive kh(K:Za)(vs:List V)(H:Hp)(Q:VK)(E:XK):Prop
 |mk (X:TK×V->Prop) (hX:Lp X) (H0:Hp) (t l1 l2 l3 l4 kd fu su:Addr) (ts:Ze) (kv:List (TK×V)) (n:Nat) (sg:Sg) (face J0 J2 J4:Zb) (ds:List ao):(vs=[.ref t,.ref kd,.ref fu,.ref su])->(h9 H0 t l1 l2 l3 l4 ts J0 J2 J4 ds)->(cK J0 J2 J4 ds)->(H0 kd=none)->(ab H0 H)->(eL X H kd kv J0 J2 J4 ds n)->(H fu=some (.tup (face.map V.str)))->(H su=some (.tup (sg.map V.str)))->(face.length<=1000)->(n<=8000000) ->
  (∀(u:Addr) (kv':List (TK×V)) (H':Hp),H' u=some (.tup ((behF J4 ds face sg).map V.str))->eL X H' kd kv' J0 J2 J4 ds (n+1)->bJ kd H H'->Q (.ref u) H')->kh K vs H Q E
theorem HR{K:Za}{Y:List V}{H:Hp}{Q:VK}{E:XK}(h:kh K Y H Q E):Bu K (zU K) (bq Q) (start CK Y) H:=by
 obtain⟨X,hX,H0,t,l1,l2,l3,l4,x,l,q,ts,kv,n,g,f,J0,J2,M,N,rfl,T,m,h0,S0,D,B,C,hz,hn,k⟩:=h;have z:∀{i:List (TK×V)}{H':Hp}{u:Addr},eL X H' x i J0 J2 M N (n+1)->bJ x H H'->bu i (A9 f g)=some (.ref u)->H' u=some (.tup ((behF M N f g).map V.str))->(aQ (mw K V1 (bj (aT V2 V3)))) (bq Q) [some (.ref t),some (.ref x),some (.ref l),some (.ref q)] H':=by
  intro i H' u D' ex v' y;refine⟨_,rfl,_,rfl,_,rfl,(by show 2<=aj;decide),fun p O=>?_⟩;have S:ab H' (upd H' p (.tup [.ref l,.ref q])):=ab.new O;have kt:=bJ.ktd D.hkd ex;have tk:=DV (aa (H:=H') (a:=p)) (S _ _ (kt _ _ B)) (S _ _ (kt _ _ C));exact⟨x,_,rfl,.inr ⟨_,A9 f g,p,.inl (S _ _ D'.hkd),rfl,eR.isIn 8 (kA _ _) tk,kA _ _,v'.symm⟩,k u i _ (S _ _ y) (D'.up S) (ex.trs (ab.exBs S))⟩
 refine⟨_,rfl,_,rfl,(by show 2<=aj;decide),fun p O=>?_⟩;have S:ab H (upd H p (.tup [.ref l,.ref q])):=ab.new O;have tk:=DV (aa (H:=H) (a:=p)) (S _ _ B) (S _ _ C);generalize upd H p (.tup [.ref l,.ref q])=H1 at S tk ⊢;have G:=D.up S;refine⟨_,rfl,x,_,rfl,.inr ⟨_,A9 f g,p,.inl G.hkd,rfl,eR.isIn 8 (kA _ _) tk,kA _ _,rfl⟩,_,rfl,?_⟩;cases j:bu kv (A9 f g)with
 |some w =>
  obtain⟨u,rfl,y⟩:=G.val hX j;exact bt (z (G.more (by omega)) (ab.exBs S) j y)
 |none =>
  refine bG ?_;refine⟨_,rfl,_,rfl,_,rfl,t,l,q,l1,l2,l3,l4,ts,J0,J2,M,f,g,N,rfl,T.same (S0.trans S),m,S _ _ B,bT.of (S _ _ C),hz,fun u I y S2=>?_⟩;refine⟨_,rfl,_,rfl,_,rfl,(by show 2<=aj;decide),fun J U=>?_⟩;have r:ab I (upd I J (.tup [.ref l,.ref q])):=ab.new U;have s:=S.trans S2;have A:=DV (aa (H:=I) (a:=J)) (r _ _ (s _ _ B)) (r _ _ (s _ _ C));generalize upd I J (.tup [.ref l,.ref q])=H3 at r A ⊢;have L:=(G.up S2).up r;have cl:=L.len;refine⟨x,_,rfl,.inr ⟨_,A9 f g,J,L.hkd,rfl,A,kA _ _,by rw[xk];omega,rfl⟩,?_⟩;have D4:=L.put (k:=A9 f g) (v:=.ref u) (.inl ⟨f,g,u,rfl,r _ _ y⟩);exact z D4 ((ab.exBs (s.trans r)).trs fun b o e nb=>by rw[ai nb];exact e) (by rw[jg,if_pos rfl]) (LS L.hkd _ _ (r _ _ y))
def askedF(J0 J4:Zb)(ds:List ao)(face:Zb):List Str:=J0.filter fun a=>decide (behF J4 ds face (dW a)≠[])
inductive mC(K:Za)(vs:List V)(H:Hp)(Q:VK)(E:XK):Prop
 |mk (X:TK×V->Prop) (hX:Lp X) (H0:Hp) (t l1 l2 l3 l4 kd fu:Addr) (ts:Ze) (kv:List (TK×V)) (n:Nat) (face J0 J2 J4:Zb) (ds:List ao):(vs=[.ref t,.ref kd,.ref fu])->(h9 H0 t l1 l2 l3 l4 ts J0 J2 J4 ds)->(cK J0 J2 J4 ds)->(H0 kd=none)->(ab H0 H)->(eL X H kd kv J0 J2 J4 ds n)->(H fu=some (.tup (face.map V.str)))->(face.length<=1000)->(n+4<=8000000) ->
  (∀(l:Addr) (kv':List (TK×V)) (H':Hp),H' l=some (.lst ((askedF J0 J4 ds face).map V.str))->eL X H' kd kv' J0 J2 J4 ds (n+4)->bJ kd H H'->Q (.ref l) H')->mC K vs H Q E
theorem HQ{K:Za}{g:List V}{H:Hp}{Q:VK}{E:XK}(h:mC K g H Q E):Bt K (kh K) (bq Q) (start CJ g) H:=by
 obtain⟨X,hX,H0,t,O,l2,l3,l4,kd,fu,ts,kv,n,f,B,J2,w,x,rfl,T,m,h0,S0,D,hf,hz,hn,k⟩:=h;have z1:=m.asks4;have T':=T.same S0;have a1:=T'.a1;have n1:O≠kd:=fun z=>by have:=D.hkd;rw[<-z,a1]at this;cases this
 refine⟨_,rfl,.inr (.inl ⟨t,_,0,_,rfl,rfl,bT.of T'.t,rfl,O,rfl,⟨_,ay.of a1⟩,fun l J=>?_⟩)⟩;have nl:l≠kd:=(ae D.hkd J).symm
 let U:Nat->List V->Hp->Prop:=fun i g y=>∃j:List (TK×V),g=((B.take i).filter fun a=>decide (behF w x f (dW a)≠[])).map V.str/\y l=some (.lst g)/\eL X y kd j B J2 w x (n+i)/\bJ kd H y
 refine cF (xs:=B.map V.str) U
  ⟨kv,rfl,aa,D.up (ab.new J),ab.exBs (ab.new J)⟩ (fun i g y _ zq=>by obtain⟨_,_,L,_,ex⟩:=zq;exact⟨L,ay.of (ex _ _ a1 n1)⟩) ?_ ?_
 ·rintro g y ⟨j,rfl,L,D',ex⟩;rw[ah,bb]at L;rw[ah]at D';exact k l j y L (D'.more (by omega)) ex
 ·rintro i g M v hv hi ⟨Y,rfl,h1,D1,p⟩;obtain⟨a,ha,rfl⟩:=cE hv;have il:i<B.length:=(cj.1 ha).1;refine gN ?_;refine⟨_,rfl,_,rfl,_,rfl,_,rfl,(by show 2<=aj;decide),fun s hs=>?_⟩;have A:ab M (upd M s (.tup [.str "ask",.str a])):=ab.new hs;have s2:upd M s (.tup [.str "ask",.str a]) s=some (.tup ((dW a).map V.str)):=aa;generalize upd M s (.tup [.str "ask",.str a])=H2 at A s2 ⊢;have al:=bJ.ktd D.hkd p;refine⟨X,hX,H0,t,O,l2,l3,l4,kd,fu,s,ts,Y,n+i,dW a,f,B,J2,w,x,rfl,T,m,h0,(bJ.sameH S0 h0 p).trans A,D1.up A,A _ _ (al _ _ hf),s2,hz,by omega,fun u C H3 hu D3 G=>?_⟩;refine⟨(by show 0<=aj;decide),fun e he=>⟨fH (behF w x f (dW a)),fH [],bv (bT.of (kp hu he)),bv (bT.of aa),by rw[bA];decide,by rw[bA];decide,_,rfl,?_⟩⟩;rw[jM];have N:ab H3 (upd H3 e (.tup [])):=ab.new he;generalize upd H3 e (.tup [])=H4 at N ⊢;have r:=N _ _ (G _ _ (A _ _ h1) nl);have D4:=D3.up N;have I:bJ kd H H4:=(p.trs (ab.exBs A)).trs (G.trs (ab.exBs N));have ed:(!decide (behF w x f (dW a)=[]))=decide (behF w x f (dW a)≠[]):=by simp
  rw[ed];refine mJ (fun hq=>?_) (fun hq=>?_)
  ·refine⟨_,rfl,r,?_,n5 hi ⟨C,?_,aa,D4.cell r,fun b o q nb=>?_⟩⟩
   ·rw[ah];refine ar (aD (dk _ _) ?_);rw[aA];omega
   ·rw[cB ha,if_pos hq,ax];rfl
   ·rw[ai (ae q J)];exact I _ _ q nb
  ·refine n5 hi ⟨C,?_,r,D4,I⟩;rw[cB ha,if_neg hq,eZ]
def lB:Nat->Nat
 |0=>0
 |d+1=>30+25 * lB d
theorem iH(e f g:Zb)(h:List ao)(a:Zb):kindsF e f g h a=((askedF e g h a).map some++[none]).map (aP f):=by
 unfold kindsF askedF;rw[ax,jR];rfl
inductive kS(K:Za)(D:Nat)(vs:List V)(H:Hp)(Q:VK)(E:XK):Prop
 |mk (X:TK×V->Prop) (hX:Lp X) (H0:Hp) (t l1 l2 l3 l4 kd fu:Addr) (ts:Ze) (kv:List (TK×V)) (n d:Nat) (face J0 J2 J4:Zb) (ds:List ao):(vs=[.ref t,.ref kd,.ref fu,.int (d:Nat)])->(d<=D)->(h9 H0 t l1 l2 l3 l4 ts J0 J2 J4 ds)->(cK J0 J2 J4 ds)->(H0 kd=none)->(ab H0 H)->(eL X H kd kv J0 J2 J4 ds n)->(H fu=some (.tup (face.map V.str)))->(face.length<=1000)->(n+lB d<=8000000) ->
  (∀(kv':List (TK×V)) (H':Hp),eL X H' kd kv' J0 J2 J4 ds (n+lB d)->bJ kd H H'->Q (.int (cntM J0 J2 J4 ds d face)) H')->kS K D vs H Q E
inductive jj(K:Za)(D:Nat)(vs:List V)(H:Hp)(Q:VK)(E:XK):Prop
 |mk (X:TK×V->Prop) (hX:Lp X) (H0:Hp) (t l1 l2 l3 l4 kd fu:Addr) (ts:Ze) (ask:Option Str) (kv:List (TK×V)) (n d:Nat) (face J0 J2 J4:Zb) (ds:List ao):(vs=[.ref t,.ref kd,.ref fu,lg ask,.int ((d+1:Nat))])->(d<=D)->(h9 H0 t l1 l2 l3 l4 ts J0 J2 J4 ds)->(cK J0 J2 J4 ds)->(H0 kd=none)->(ab H0 H)->(eL X H kd kv J0 J2 J4 ds n)->(H fu=some (.tup (face.map V.str)))->(face.length<=1000)->(n+5 * (1+lB d)<=8000000) ->
  (∀(l:Addr) (kv':List (TK×V)) (H':Hp),H' l=some (.lst (((aP J2 ask).map fun sg=>cntM J0 J2 J4 ds d (behF J4 ds face sg)).map V.int))->eL X H' kd kv' J0 J2 J4 ds (n+5 * (1+lB d))->bJ kd H H'->Q (.ref l) H')->jj K D vs H Q E
theorem cq(e:Zb)(ask:Option Str):(aP e ask).length=e.length+1:=by
 cases ask with
 |none=>unfold aP;rw[aO,ah];rfl
 |some a=>unfold aP;rw[gC,ah]
theorem BH{K:Za}{D:Nat}{vs:List V}{H:Hp}{Q:VK}{E:XK}(h:jj K D vs H Q E):Bo K my (kS K D) (kh K) (bq Q) (start CD vs) H:=by
 obtain⟨X,hX,H0,t,l1,l2,l3,l4,r,fu,ts,ask,kv,n,d,f,C,p,w,x,rfl,hD,T,m,O,S0,Dy,hf,hz,hn,k⟩:=h;have z2:=m.says4;have z3:=m.rooms26;refine⟨(by show 0<=aj;decide),fun l U=>?_⟩;have S1:ab H (upd H l (.lst [])):=ab.new U;have nl:l≠r:=(ae Dy.hkd U).symm;have y:upd H l (.lst []) l=some (.lst []):=aa;generalize upd H l (.lst [])=H1 at S1 y ⊢;refine⟨_,rfl,_,rfl,t,l1,l2,l3,l4,ts,ask,C,p,w,x,rfl,(T.same S0).same S1,z2,fun pl us H2 a hP S2=>⟨pl,rfl,⟨_,ay.of a⟩,?_⟩⟩;have q:=S1.trans S2;have D2:=Dy.up q;have al:pl≠r:=fun z=>by have:=D2.hkd;rw[<-z,a]at this;cases this
 have zu:us.length=p.length+1:=by rw[Paired.length hP,cq]
 have G:pl≠l:=fun z=>by
  rw[z,S2 _ _ y]at a;injection a with a;injection a with a;rw[yD.1 a.symm]at zu;cases zu
 have l0:H0 l=none:=S0.free U;have I:=S2 _ _ y;have an:=S0.trans q;have f2:=q _ _ hf
 let ap:Nat->L2.St->Hp->Prop:=fun i σ Y=>JA fun(as:List (TK×V)) (x6:Option V)=>M9 (σ=[some (.ref t),some (.ref r),some (.ref fu),some (lg ask),some (.int ((d+1:Nat))),some (.ref l),x6]) (Y l=some (.lst ((((aP p ask).take i).map fun sg=>cntM C p w x d (behF w x f sg)).map V.int))) (eL X Y r as C p w x (n+i * (1+lB d))) (∀b o,H2 b=some o->b≠r->b≠l->Y b=some o)
 refine cN (xs:=us.map V.ref) ap
  ⟨kv,_,rfl,I,D2.more (by omega),fun _ _ e _ _=>e⟩ (fun i σ Y _ zq=>by obtain⟨_,_,_,_,_,ex⟩:=zq;exact ay.of (ex _ _ a al G)) ?_ ?_
 ·rintro i v σ H3 hi ⟨A,x6,rfl,g,D3,j⟩;obtain⟨s,hs,rfl⟩:=bV hi;obtain⟨sg,J,aC⟩:=Paired.getL hP hs;have il:i<(aP p ask).length:=(cj.1 J).1;rw[cq]at il;have L:gg H2 H3:=fun b xs e=>j _ _ e (fun z=>by rw[z,D2.hkd]at e;cases e) (fun z=>by rw[z,I]at e;cases e);have M:ab H0 H3:=fun b o e=>j _ _ (an _ _ e) (ae e O) (ae e l0);have a6:(i+1) * (1+lB d)=i * (1+lB d)+(1+lB d):=fk _ _;have a5:(i+1) * (1+lB d)<=5 * (1+lB d):=c7 _ (by omega);refine⟨_,rfl,.inl ⟨rfl,_,ay.of g⟩,_,rfl,_,rfl,_,rfl,_,rfl,_,rfl,_,rfl,X,hX,H0,t,l1,l2,l3,l4,r,fu,s,ts,A,_,sg,f,C,p,w,x,rfl,T,m,O,M,D3,L _ _ f2,L _ _ aC,hz,by omega,fun u a0 H4 hu D4 B=>?_⟩;refine⟨_,rfl,_,_,rfl,rfl,X,hX,H0,t,l1,l2,l3,l4,r,u,ts,a0,_,d,behF w x f sg,C,p,w,x,?_,hD,T,m,O,bJ.sameH M O B,D4,hu,jx (by omega) hz,by omega,fun a4 H5 D5 N=>?_⟩
  ·show[V.ref t,V.ref r,V.ref u,V.int (((d+1:Nat):Int)-1)]=_;rw[show(((d+1:Nat):Int)-1)=(d:Nat) by omega]
  have l5:=N _ _ (B _ _ g nl) nl;refine⟨l,_,_,rfl,rfl,l5,?_,a4,_,rfl,?_,(D5.more (m:=n+(i+1) * (1+lB d)) (by omega)).cell l5,fun b o e n1 n2=>?_⟩
  ·rw[ah,ah,aA];exact ar (by omega)
  ·rw[aa,take_snoc J,ax,ax];rfl
  ·rw[ai n2];exact N _ _ (B _ _ (j _ _ e n1 n2) n1) n1
 ·rintro σ H3 ⟨A,x6,rfl,g,D3,j⟩;rw[ah,Paired.length hP,bb]at g;rw[ah,zu]at D3;have m5:(p.length+1) * (1+lB d)<=5 * (1+lB d):=c7 _ (by omega);exact⟨_,rfl,k l A H3 g (D3.more (by omega)) fun b o e nb=>j _ _ (q _ _ e) nb (ae e U)⟩
theorem Kg{K:Za}{D:Nat}{spS:Sp}(d5:D<=4)(hS:∀m,D=m+1->spS=jj K m){vs:List V}{H:Hp}{Q:VK}{E:XK}(h:kS K D vs H Q E):zr K (mC K) sp_product spS (bq Q) (start AV vs) H:=by
 obtain⟨X,hX,H0,t,l1,l2,l3,l4,kd,y,ts,kv,n,d,g,q,s,j,l,rfl,hD,T,m,h0,S0,Dy,hf,hz,hn,k⟩:=h;have z1:=m.asks4;have z2:=m.says4;refine⟨_,rfl,(by show 0<=aj;decide),fun e he=>⟨fH g,fH [],bv (bT.of (kp hf he)),bv (bT.of aa),by rw[bA];decide,by rw[bA];decide,_,rfl,?_⟩⟩;rw[jM];have M:ab H (upd H e (.tup [])):=ab.new he;generalize upd H e (.tup [])=G at M ⊢;have O:=Dy.up M;have one:cntM q s j l d g=1->Q (.int 1) G:=fun e=>by
  have:=k kv G (O.more (by omega)) (ab.exBs M);rw[e]at this;exact this
 by_cases B:g=[]
 ·rw[zzr1 B];refine bG ?_;refine bG ?_;exact one (by rw[B];exact v9 _ _ _ _ _)
 rw[zzr0 B];refine bt ?_;refine⟨_,rfl,rfl,_,rfl,?_⟩
 match d,hD,hn,k,one with
 |0,_,_,_,one =>
  refine bG ?_;exact one (by unfold cntM;rfl)
 |d+1,hD,hn,k,one =>
 rw[zzr0 (by intro z;injection z with z;omega)];refine bt ?_;obtain⟨w,rfl⟩:∃w,D=w+1:=⟨D-1,by omega⟩;cases hS w rfl;have eq:cntM q s j l (d+1) g=1+((kindsF q s j l g).map fun k=>f8 (k.map fun sg=>cntM q s j l d (behF j l g sg))).sum:=by
  conv=>lhs;unfold cntM
  rw[if_neg B]
 have nb:lB (d+1)=30+25 * lB d:=rfl;have U:=M _ _ hf;have Y:=S0.trans M;have an:∀{u:List (TK×V)}{H':Hp}{x4 N:Option V},eL X H' kd u q s j l (n+lB (d+1))->bJ kd G H'->bu u (sD g (d+1))=some (.int (cntM q s j l (d+1) g))->(aQ (mw K V1 (bj (aT V2 V3)))) (bq Q) [some (.ref t),some (.ref kd),some (.ref y),some (.int ((d+1:Nat))),x4,N] H':=by
  intro u H' x4 N D' ex v';refine⟨_,rfl,_,rfl,_,rfl,(by show 2<=aj;decide),fun p hp=>?_⟩;have S:ab H' (upd H' p (.tup [.ref y,.int ((d+1:Nat))])):=ab.new hp;have tk:=sC (d:=d+1) (aa (H:=H') (a:=p)) (S _ _ (bJ.ktd O.hkd ex _ _ U));exact⟨kd,_,rfl,.inr ⟨_,sD g (d+1),p,.inl (S _ _ D'.hkd),rfl,eR.isIn 8 (eV _ _) tk,eV _ _,v'.symm⟩,k u _ (D'.up S) ((ab.exBs M).trs (ex.trs (ab.exBs S)))⟩
 refine⟨_,rfl,_,rfl,(by show 2<=aj;decide),fun p hp=>?_⟩;have S:ab G (upd G p (.tup [.ref y,.int ((d+1:Nat))])):=ab.new hp;have tk:=sC (d:=d+1) (aa (H:=G) (a:=p)) (S _ _ U);generalize upd G p (.tup [.ref y,.int ((d+1:Nat))])=H1 at S tk ⊢;have D1:=O.up S;refine⟨_,rfl,kd,_,rfl,.inr ⟨_,sD g (d+1),p,.inl D1.hkd,rfl,eR.isIn 8 (eV _ _) tk,eV _ _,rfl⟩,_,rfl,?_⟩;cases I:bu kv (sD g (d+1))with
 |some w' =>
  refine bt ?_;exact an (D1.more (by omega)) (ab.exBs S) (by rw[I,D1.cnt hX I])
 |none =>
  refine bG ?_;refine⟨_,rfl,_,rfl,_,rfl,X,hX,H0,t,l1,l2,l3,l4,kd,y,ts,kv,n,g,q,s,j,l,rfl,T,m,h0,Y.trans S,D1,S _ _ U,hz,by omega,fun al a4 H2 a5 D2 a6=>⟨(by show 1<=aj;decide),fun nl a7=>?_⟩⟩;have za:(askedF q j l g).length<=4:=aD (dk _ _) z1;have S3:ab H2 (upd H2 nl (.lst [.non])):=ab.new a7;have ap:upd H2 nl (.lst [.non]) nl=some (.lst [.non]):=aa;generalize upd H2 nl (.lst [.non])=H3 at S3 ap ⊢;refine⟨al,nl,_,_,rfl,rfl,S3 _ _ a5,ap,by rw[ah];exact cW (ar (by show _+1<=1000;omega)),fun L a8=>?_⟩;have S4:ab H3 (upd H3 L (.lst ((askedF q j l g).map V.str++[.non]))):=ab.new a8;have x:upd H3 L (.lst ((askedF q j l g).map V.str++[.non])) L=some (.lst (((askedF q j l g).map some++[none]).map lg)):=by
   rw[aa,ax,jR];rfl
  generalize upd H3 L (.lst ((askedF q j l g).map V.str++[.non]))=H4 at S4 x ⊢;have D4:=(D2.up S3).up S4;have as:bJ kd G H4:=(ab.exBs S).trs (a6.trs (ab.exBs (S3.trans S4)));have a9:L≠kd:=fun z=>by have:=D4.hkd;rw[<-z,x]at this;cases this
  generalize hA:((askedF q j l g).map some++[none]:List (Option Str))=A at x;have zA:A.length<=5:=by rw[<-hA,aO,ah];show _+1<=5;omega
  have eA:kindsF q s j l g=A.map (aP s):=by rw[<-hA];exact iH _ _ _ _ _
  rw[eA,jR]at eq;refine⟨L,rfl,⟨_,ay.of x⟩,?_⟩
  let ba:Nat->L2.St->Hp->Prop:=fun i σ H'=>JA fun(u:List (TK×V)) (N:Option V)=>NA3 (σ=[some (.ref t),some (.ref kd),some (.ref y),some (.int ((d+1:Nat))),some (.int (1+((A.take i).map ((fun k=>f8 (k.map fun sg=>cntM q s j l d (behF j l g sg))) ∘ aP s)).sum)),N]) (eL X H' kd u q s j l (n+4+i * (5 * (1+lB d)))) (bJ kd H4 H')
  refine cN (xs:=A.map lg) ba
   ⟨a4,_,rfl,D4.more (fo _ _),bJ.refl _ _⟩ (fun i σ H' _ zq=>by obtain⟨_,_,_,_,ex⟩:=zq;exact ay.of (ex _ _ x a9)) ?_ ?_
  ·rintro i v σ H5 hi ⟨aC,N,rfl,D5,C⟩;rw[cC]at hi;obtain⟨ask,J,rfl⟩:=kH.1 hi;have il:i<A.length:=(cj.1 J).1;have r:=as.trs C;have bn:(i+1) * (5 * (1+lB d))=i * (5 * (1+lB d))+5 * (1+lB d):=fk _ _;have bl:(i+1) * (5 * (1+lB d))<=5 * (5 * (1+lB d)):=c7 _ (by omega);refine⟨_,rfl,_,rfl,_,rfl,_,rfl,_,rfl,_,rfl,X,hX,H0,t,l1,l2,l3,l4,kd,y,ts,ask,aC,_,d,g,q,s,j,l,rfl,by omega,T,m,h0,bJ.sameH Y h0 r,D5,bJ.ktd O.hkd r _ _ U,hz,by omega,fun sl bc H6 bd D6 bf=>?_⟩;refine⟨sl,_,bB d,rfl,bd,fun z bh=>?_,by have:=yk d (by omega);omega,by rw[ah,cq];omega,_,_,rfl,rfl,bc,some (lg ask),?_,D6.more (by omega),C.trs bf⟩
   ·obtain⟨sg,_,rfl⟩:=aV.1 bh;exact jw z1 z2 d _
   ·have es:∀(f:Option Str->Int),1+((A.take (i+1)).map f).sum=1+((A.take i).map f).sum+f ask:=fun f=>by
     rw[take_snoc J,ax,List.sum_append,bF,yX,oG,List.sum_nil,Int.add_zero,Int.add_assoc]
    rw[es];rfl
  ·rintro σ H5 ⟨aC,N,rfl,D5,C⟩;rw[ah]at D5;rw[ah,bb,<-eq];have m5:A.length * (5 * (1+lB d))<=5 * (5 * (1+lB d)):=c7 _ zA;have r:=as.trs C;refine⟨_,rfl,_,rfl,_,rfl,_,rfl,(by show 2<=aj;decide),fun p2 bi=>?_⟩;have S6:ab H5 (upd H5 p2 (.tup [.ref y,.int ((d+1:Nat))])):=ab.new bi;have a0:=sC (d:=d+1) (aa (H:=H5) (a:=p2)) (S6 _ _ (bJ.ktd O.hkd r _ _ U));generalize upd H5 p2 (.tup [.ref y,.int ((d+1:Nat))])=H6 at S6 a0 ⊢;have D6:=D5.up S6;have L:=D6.len;refine⟨kd,_,rfl,.inr ⟨_,sD g (d+1),p2,D6.hkd,rfl,a0,eV _ _,by rw[xk];omega,rfl⟩,?_⟩;have D7:=D6.put (k:=sD g (d+1)) (v:=.int (cntM q s j l (d+1) g)) (.inr (.inl ⟨_,_,rfl⟩));exact an (D7.more (by omega)) ((r.trs (ab.exBs S6)).trs fun b o e nb=>by rw[ai nb];exact e) (by rw[jg,if_pos rfl])
def zc(K:Za):TS :=
 aq (cG (be (az r9 (az (dF K) (az (cM K) V0 (tC (.int 0))) (tC (.int 0))) (tC (.str "ask")))) (aq (aI (cA 2 [] (IQ K (aT (wG (lN K) V0 (fz (tC (.int 1))) (c_)) (wG (lN K) V1 (fz (tC (.int 1))) (c_)))) (g6 K 2 (aY U0 (aY U1 (gM)))) (gj) (bj (aT (az (t7 K) V0 (tC (.int 1))) V1))) U2)
 (aQ (bj (ak (tC (.str "tell")) (c9 (az (dF K) (az (cM K) V0 (tC (.int 0))) (tC (.int 1))) (az (cM K) V1 (tC (.int 0))) (gk (oz K) (aw V2))))))) (bC))
 (aq (aI (cA 2 [] (IQ K (ak (wG (lN K) V0 (c_) (fz (Jz (rU fun i=>.int (-i)) (tC (.int 1))))) (ak (wG (lN K) V1 (c_) (fz (Jz (rU fun i=>.int (-i)) (tC (.int 1))))) bp))) (g6 K 2 (aY U0 (aY U1 (gM)))) (gj) (bj (aT (az (t7 K) V0 (tC (.int 1))) V1))) U2)
 (aQ (bj (c9 (tC (.str "wait")) (gk (oz K) (aw V2)) (az (cM K) V1 (Jz (rU fun i=>.int (-i)) (tC (.int 1))))))))
def AN:List Str:=["signs","parts","pairs"]
def tK(K:Za)(sp_trial_from:Sp)(C_Made:Addr)(sp_Made_trial_at:Sp)(sp_Made_count_at:Sp)(sp_Made_steps_from:Sp):TS :=
 aq (aI (cz C_Made "steps_from" sp_Made_steps_from [] E0 V0 (aw V1)) U5)
 (aq (aI (cT (bp)) U6)
 (aq (aI V4 U7)
 (aq (fA (LW K (aw V3)) U8 (aq (aI (gk EB (ak V7 (ak (cz C_Made "count_at" sp_Made_count_at [] E0 V0 (aT (r8 K V5 V8) (az sZ V2 (tC (.int 1))))) bp))) (g6 K 2 (aY U7 (aY U9 (gM)))))
 (dR (Dc K "list" gb V6 (ak (cz C_Made "trial_at" sp_Made_trial_at [] E0 V0 (c9 (r8 K V5 V8) (az sZ V2 (tC (.int 1))) V9)) bp)))))
 (aq (dR (JP K "list" BL V6))
 (aQ (aL sp_trial_from (aT V3 V6)))))))
def ub:List Str:=["self","face","d","signs","number","steps","parts","left","sign","own"]
def tL(K:Za)(C_Made:Addr)(sp_Made_trial_of:Sp)(sp_Made_count_of:Sp)(sp_Made_kinds_at:Sp)(a_END:Addr)(a_BLAME:Addr):TS :=
 aq (cG (tB (vk V1)) (aQ (tC (.ref a_BLAME))) (bC))
 (aq (cG (be (az r9 V3 (tC (.int 0)))) (aQ (tC (.ref a_END))) (bC))
 (aq (aI (az sZ V3 (tC (.int 1))) U4)
 (aq (aI (cz C_Made "kinds_at" sp_Made_kinds_at [] E0 V0 (aw V1)) U5)
 (aq (aI (tC (.int 0)) U6)
 (aq (vg (be (az LI V4 (cz C_Made "count_of" sp_Made_count_of [] E0 V0 (c9 V1 V2 (az (cM K) V5 V6))))) (aq (JQ 4 (cz C_Made "count_of" sp_Made_count_of [] E0 V0 (c9 V1 V2 (az (cM K) V5 V6))) (ME fun i j=>i-j))
 (JQ 6 (tC (.int 1)) (ME fun i j=>i+j))))
 (aQ (cz C_Made "trial_of" sp_Made_trial_of [] E0 V0 (ak V1 (c9 V2 (az (cM K) V5 V6) V4)))))))))
def uc:List Str:=["self","face","d","number","left","kinds","at"]
def FE(K:Za)(C_Made:Addr)(sp_Made_trial_at:Sp)(cu:Sp)(sp_Made_count_at:Sp)(sp_Made_init:Sp)(cH:Sp):TS :=
 aq (dR (aL cH (aw V1)))
 (aq (aI (xx C_Made sp_Made_init [] E0 (aw V0)) U3)
 (aq (cG (C2 (be (az HV V2 (tC (.int 0)))) (be (az LI V2 (cz C_Made "count_at" sp_Made_count_at [] E0 V3 (aT (aL cu (aw V0)) V1))))) (rS) (bC))
 (aQ (cz C_Made "trial_at" sp_Made_trial_at [] E0 V3 (c9 (aL cu (aw V0)) V1 V2)))))
def GZ:List Str:=["M","d","number","made"]
def FG(K:Za)(sp_law_take:Sp):TS :=
 aq (aI (tC (.int 0)) U2)
 (aq (fA (tt (aw (tC (.int 22)))) U3 (aI (az dS (az xA V2 (tC (.int 1000003))) (aL sp_law_take (aT V0 (tC (.int 1000003))))) U2))
 (aQ (az jo V2 V1)))
def G9:List Str:=["pen","many","found","turn"]
mutual
def cV(K:Za)(H:Hp):DT->V->Prop
 |.k a,v=>v=kV a
 |.t l,v=>∃b xs,v=.ref b/\aS K H b xs/\TrCs K H l xs
 |.s _,_=>False
def TrCs(K:Za)(H:Hp):List DT->List V->Prop
 |[],vs=>vs=[]
 |k::r,vs=>∃v us,vs=v::us/\cV K H k v/\TrCs K H r us
end
mutual
theorem cV.kt{K:Za}{H a:Hp}(k:gg H a):∀(d:DT) (v:V),cV K H d v->cV K a d v
 |.k _,_,h=>h
 |.t l,v,h=>by
  obtain⟨b,f,e,t,r⟩:=h;exact⟨b,f,e,aS.kt k t,TrCs.kt k l f r⟩
 |.s _,_,h=>h
theorem TrCs.kt{K:Za}{H f:Hp}(k:gg H f):∀(l:List DT) (a:List V),TrCs K H l a->TrCs K f l a
 |[],_,h=>h
 |d::r,a,h=>by
  obtain⟨v,g,e,t,q⟩:=h;exact⟨v,g,e,cV.kt k d v t,TrCs.kt k r g q⟩
end
mutual
theorem cV.dIn{K:Za}{H:Hp}:∀(d:DT) (v:V),cV K H d v->wB K H d v
 |.k _,_,h=>h
 |.t l,v,h=>by
  obtain⟨b,a,e,t,r⟩:=h;exact⟨b,a,e,aS.sq t,TrCs.dIn l a r⟩
 |.s _,_,h=>h.elim
theorem TrCs.dIn{K:Za}{H:Hp}:∀(l:List DT) (a:List V),TrCs K H l a->DIns K H l a
 |[],_,h=>h
 |d::r,a,h=>by
  obtain⟨v,f,e,t,q⟩:=h;exact⟨v,f,e,cV.dIn d v t,TrCs.dIn r f q⟩
end
abbrev gO(K:Za)(H:Hp)(vs:List V)(ps:List DT):Prop:=Paired (fun v d=>cV K H d v) vs ps
theorem gO.kt{K:Za}{H a:Hp}{e:List V}{f:List DT}(k:gg H a)(h:gO K H e f):gO K a e f:=Paired.mapP h fun v d r=>cV.kt k d v r
theorem gO.all{K:Za}{H:Hp}{vs:List V}{e:List DT}(f:gO K H vs e):TrCs K H e vs:=by
 have h:Paired (fun v d=>cV K H d v) vs e:=f;clear f
 induction h with
 |nil=>rfl
 |cons a _ g=>exact⟨_,_,rfl,a,g⟩
theorem e_{K:Za}{H:Hp}(s:Str):cV K H (fG s) (.str s):=rfl
def dw:Sg:=["blame"]
def eQ:Sg:=["end"]
theorem mn{K:Za}{H:Hp}{b:Addr}:∀{a:Sg},aS K H b (a.map V.str)->cV K H (fH a) (.ref b):=fun{a} h=>by
 refine⟨b,_,rfl,h,?_⟩;clear h
 induction a with
 |nil=>rfl
 |cons s r e=>exact⟨_,_,rfl,e_ s,e⟩
def eM(w:Str)(d:DT):DT:=.t [fG w,d]
def eW(J2:Zb):Option Str->List DT->DT
 |none,ps=>.t [fG "wait",.t (fR eM J2 (ps.take J2.length)),(ps[J2.length]?).getD (fH eQ)]
 |some a,ps=>.t [fG "tell",fG a,(ps[0]?).getD (fH eQ),.t (fR eM J2 (ps.drop 1))]
def Ax(c:Sg->Int)(f:Sg->Int->DT):List Sg->Int->List DT
 |[],_=>[]
 |sg::r,n=>f sg (n % c sg)::Ax c f r (n / c sg)
def J_(c:Sg->Int):List Sg->Int->Int
 |[],n=>n
 |sg::r,n=>J_ c r (n / c sg)
theorem xW(c:Sg->Int)(f:Sg->Int->DT)(x:Sg):∀(l:List Sg) (n:Int),Ax c f (l++[x]) n=Ax c f l n++[f x (J_ c l n % c x)]
 |[],n=>rfl
 |sg::r,n=>by
  show f sg (n % c sg)::Ax c f (r++[x]) (n / c sg)=_;rw[xW c f x r];rfl
theorem BE(c:Sg->Int)(x:Sg):∀(l:List Sg) (n:Int),J_ c (l++[x]) n=J_ c l n / c x
 |[],n=>rfl
 |sg::r,n=>by
  show J_ c (r++[x]) (n / c sg)=_;rw[BE c x r];rfl
theorem vW(c:Sg->Int)(f:Sg->Int->DT):∀(l:List Sg) (n:Int),(Ax c f l n).length=l.length
 |[],_=>rfl
 |sg::r,n=>by
  show(Ax c f r (n / c sg)).length+1=r.length+1;rw[vW c f r]
def gG(c:Option Str->Int):List (Option Str)->Int->Option (Option Str×Int)
 |[],_=>none
 |a::r,n=>if n<c a then some (a,n)else gG c r (n-c a)
def prodA(J0 J2 J4:Zb)(ds:List ao)(d:Nat)(face:Zb)(a:Option Str):Int:=f8 ((aP J2 a).map fun sg=>cntM J0 J2 J4 ds d (behF J4 ds face sg))
def laidM(J0 J2 J4:Zb)(ds:List ao)(d:Nat)(nx:List Str->Int->DT)(face:Zb)(a:Option Str)(m:Int):DT :=
 eW J2 a (Ax (fun sg=>cntM J0 J2 J4 ds d (behF J4 ds face sg)) (fun sg=>nx (behF J4 ds face sg)) (aP J2 a).reverse m).reverse
def nthM(J0 J2 J4:Zb)(ds:List ao):Nat->List Str->Int->DT
 |0,face,_=>if face=[]then fH dw else fH eQ
 |d+1,face,n=>if face=[]then fH dw else if n=0 then fH eQ else
  match gG (prodA J0 J2 J4 ds d face) ((askedF J0 J4 ds face).map some++[none]) (n-1)with
  |none=>fH eQ
  |some (a,m)=>laidM J0 J2 J4 ds d (nthM J0 J2 J4 ds d) face a m
theorem Iw(a e f:Zb)(g:List ao)(n:Int):∀d,nthM a e f g d [] n=fH dw
 |0=>by unfold nthM;rw[if_pos rfl]
 |d+1=>by unfold nthM;rw[if_pos rfl]
theorem Ix{e f g a:Zb}{i:List ao}(h:a≠[]):∀d,nthM e f g i d a 0=fH eQ
 |0=>by unfold nthM;rw[if_neg h]
 |d+1=>by unfold nthM;rw[if_neg h,if_pos rfl]
theorem Gn{e i f face:Zb}{g:List ao}{d:Nat}{n:Int}{a:Option Str}{m:Int}(h:face≠[])(j:n≠0)(k:gG (prodA e i f g d face) ((askedF e f g face).map some++[none]) (n-1)=some (a,m)):
  nthM e i f g (d+1) face n=laidM e i f g d (nthM e i f g d) face a m:=by
 unfold nthM;rw[if_neg h,if_neg j,k]
def dB:Nat->Nat
 |0=>1
 |d+1=>dB d+3
theorem rJ{b:Nat}:∀(e:Zb) (a:List DT),(∀p∈a,p.depth<=b)->DT.depths (fR eM e a)<=b+1
 |[],_,_=>by simp[DT.depths]
 |_::_,[],_=>by simp[DT.depths]
 |w::e,p::a,h=>by
  show max (eM w p).depth (DT.depths (fR eM e a))<=b+1;have g:=rJ e a fun q f=>h q (dY _ f);have i:=h p dQ;have j:(eM w p).depth=max 0 (max p.depth 0)+1:=rfl;omega
theorem Bj{g:Zb}{a:Option Str}{f:List DT}{b:Nat}(l:1<=b)(h:∀p∈f,p.depth<=b):(eW g a f).depth<=b+3:=by
 have k:∀i:Nat,((f[i]?).getD (fH eQ)).depth<=b:=fun i=>by
  cases e:f[i]? with
  |none=>show(fH eQ).depth<=b;rw[bA];exact l
  |some p=>exact h p (bQ e)
 cases a with
 |none =>
  have m:=rJ g (f.take g.length) fun p j=>h p (gQ j);have n:=k g.length;show max 0 (max (DT.depths _+1) (max _ 0))+1<=b+3;omega
 |some a =>
  have m:=rJ g (f.drop 1) fun p j=>h p (yF j);have n:=k 0;show max 0 (max 0 (max _ (max (DT.depths _+1) 0)))+1<=b+3;omega
theorem DN:∀d,1<=dB d
 |0=>aB _
 |d+1=>by show 1<=dB d+3;omega
theorem xC:∀(l:List Int),(∀x∈l,0<x)->0<f8 l:=by
 have a:∀(l:List Int) (b:Int),0<b->(∀x∈l,0<x)->0<l.foldl (· * ·) b:=by
  intro l
  induction l with
  |nil=>intro b e _;exact e
  |cons x l f=>intro b e h;exact f _ (Int.mul_pos e (h x dQ)) fun y g=>h y (dY _ g)
 exact fun l h=>a l 1 (by decide) h
theorem pd:∀(l:List Int),(∀x∈l,0<=x)->0<=l.sum
 |[],_=>rg _
 |x::l,h=>by
  rw[oG];have:=h x dQ;have:=pd l fun y a=>h y (dY _ a);omega
theorem le(g h e:Zb)(f:List ao):∀(d:Nat) (a:Zb),0<cntM g h e f d a
 |0,_=>by unfold cntM;decide
 |d+1,a=>by
  unfold cntM;split
  ·decide
  ·have:=pd ((kindsF g h e f a).map fun k=>f8 (k.map fun i=>cntM g h e f d (behF e f a i))) fun x j=>by
    obtain⟨k,_,rfl⟩:=aV.1 j;exact uF (xC _ fun y l=>by
     obtain⟨i,_,rfl⟩:=aV.1 l;exact le g h e f d _)
   omega
theorem xD(f g h:Zb)(i:List ao)(d:Nat)(e:Zb)(a:Option Str):0<prodA f g h i d e a:=xC _ fun y j=>by
 obtain⟨k,_,rfl⟩:=aV.1 j;exact le f g h i d _
theorem AC{e i f a:Zb}{g:List ao}{d:Nat}(h:a≠[]):cntM e i f g (d+1) a=1+(((askedF e f g a).map some++[none]).map (prodA e i f g d a)).sum:=by
 conv=>lhs;unfold cntM
 rw[if_neg h,iH,jR];rfl
structure K0(c:Option Str->Int)(A:List (Option Str))(n:Int)(i:Nat)(left:Int):Prop where
 eq:gG c A n=gG c (A.drop i) left
 lo:0<=left
 hi:left<((A.drop i).map c).sum
theorem K0.at{c:Option Str->Int}{A:List (Option Str)}{n left:Int}{i:Nat}(h:K0 c A n i left):∃a,A[i]?=some a/\A.drop i=a::A.drop (i+1):=by
 cases e:A[i]? with
 |none =>
  have:=h.hi;rw[List.drop_eq_nil_of_le (List.getElem?_eq_none_iff.1 e)]at this;have l:=h.lo;have:left<0:=this;omega
 |some a =>
  obtain⟨f,rfl⟩:=cj.1 e;exact⟨_,rfl,l6 f⟩
theorem K0.stop{c:Option Str->Int}{A:List (Option Str)}{n left:Int}{i:Nat}{a:Option Str}(h:K0 c A n i left)(e:A[i]?=some a)(l:left<c a):gG c A n=some (a,left):=by
 obtain⟨b,f,g⟩:=h.at;rw[e]at f;cases f;rw[h.eq,g];show(if left<c a then _ else _)=_
 rw[if_pos l]
theorem K0.next{c:Option Str->Int}{A:List (Option Str)}{n left:Int}{i:Nat}{a:Option Str}(h:K0 c A n i left)(e:A[i]?=some a)(l:¬left<c a):K0 c A n (i+1) (left-c a):=by
 obtain⟨b,f,g⟩:=h.at;rw[e]at f;cases f;refine⟨?_,by omega,?_⟩
 ·rw[h.eq,g];show(if left<c a then _ else _)=_
  rw[if_neg l]
 ·have:=h.hi;rw[g,bF,oG]at this;omega
theorem GL{K:Za}{k:Nat}{q:List Nat}{g:TG}{r:TT}{s:TE}{σ:L2.St}{w:Hp}{Q:Hp->Prop}{l a b:Addr}{xs ys:List V}(B:xs.length=ys.length)(Pv:Nat->List V->Hp->Prop)(C:Pv 0 [] (upd w l (.lst [])))
  (n:∀i e H,i<=xs.length->Pv i e H->H l=some (.lst e)/\ay K H a xs/\ay K H b ys) (D:∀e H,Pv xs.length e H->Q H)
  (E:∀i e H x y p,xs[i]?=some x->ys[i]?=some y->i<xs.length->Pv i e H->H p=none->g (.ref p) (ei k q σ) (upd H p (.tup [x,y])) fun σ2 G=>r σ2 G fun b z =>
   if b=true then s σ2 z fun v A=>A l=some (.lst e)/\e.length<aj/\∃h,h<xs.length-i/\Wc xs.length Pv (i+1) h (e++[v]) (upd A l (.lst (e++[v])))else ∃h,h<xs.length-i/\Wc xs.length Pv (i+1) h e z) :
  dJ k q σ (M_ K a b) g r s w l Q:=by
 refine kB xs.length Pv C (fun i e H f p=>(n i e H f p).1) (fun i e H f p=>?_) (fun e H p=>?_) fun i e H x M f p y=>?_
 ·obtain⟨_,j,m⟩:=n i e H (cW f) p;have o:i<ys.length:=by omega
  exact⟨xs,ys,xs[i],ys[i],j,m,by simp[f],by simp[o]⟩
 ·obtain⟨_,j,m⟩:=n _ e H (aB _) p;exact⟨⟨xs,ys,j,m,.inl (aB _)⟩,D e H p⟩
 ·obtain⟨_,j,m⟩:=n i e H (cW f) p;obtain⟨t,u,v,rfl,I,J,L,rfl⟩:=y;exact E i e H u v t (J xs j) (L ys m) f p I
theorem sy(a:List V):gq a none (some (-1))=a.take (a.length-1):=by
 unfold gq;have e:HT.sIx a.length 0 none=0:=rfl;have f:HT.sIx a.length a.length (some (-1))=a.length-1:=by unfold HT.sIx;simp;omega
 rw[e,f];rfl
theorem Fk{a:List V}{n:Nat}{v:V}(f:n+1=a.length)(h:a[n]?=some v):AJ a (-1)=some v:=by
 have e:a=a.take n++[v]:=by rw[<-take_snoc h,f,bb]
 rw[e];exact Jk _ _
theorem vZ{K:Za}{σ:L2.St}{H:Hp}{a b l:Addr}{y:Ze}{A:List V}{n:Zb}{ps:List DT}{Q:Hp->Prop}(ha:H a=some (.lst (y.map V.ref)))(N:Fo K H y (n.map cO))(hb:H b=some (.lst A))(O:gO K H A ps)(z:n.length=ps.length)(z4:n.length<=4)(T:H l=none)
  (k:∀(f:List V) (h:Hp),h l=some (.lst f)->gO K h f (fR eM n ps)->ab H h->Q h) :
  dJ 2 [] σ (M_ K a b) (g6 K 2 (aY U0 (aY U1 (gM)))) (gj) (bj (aT (az (t7 K) V0 (tC (.int 1))) V1)) H l Q:=by
 have zg:y.length=n.length:=by rw[Paired.length N,ah]
 have zv:A.length=ps.length:=Paired.length O
 let C:Nat->List V->Hp->Prop:=fun i f h=>ab H h/\h l=some (.lst f)/\gO K h f (fR eM (n.take i) (ps.take i))
 refine GL (xs:=y.map V.ref) (ys:=A) (by rw[ah];omega) C ⟨ab.new T,aa,.nil⟩ (fun i f h _ zq=>by obtain⟨S,D,_⟩:=zq;exact⟨D,ay.of (S _ _ ha),ay.of (S _ _ hb)⟩) ?_ ?_
 ·rintro f h ⟨S,D,r⟩;rw[ah,zg,bb,z,bb]at r;exact k f h D r S
 ·rintro i f B x v p hx hv hi ⟨S,h1,r⟩ E;obtain⟨g,G,rfl⟩:=bV hx;obtain⟨sg,s,I⟩:=Paired.getL N G;rw[cC]at s;obtain⟨w,hw,rfl⟩:=kH.1 s;obtain⟨d,hd,J⟩:=Paired.getL O hv;have L:ab B (upd B p (.tup [.ref g,v])):=ab.new E;have U:upd B p (.tup [.ref g,v]) p=some (.tup [.ref g,v]):=aa;generalize upd B p (.tup [.ref g,v])=t at L U ⊢;refine⟨p,_,rfl,bT.of U,rfl,_,_,rfl,_,_,rfl,rfl,oS ?_⟩;have M:aS K t g ((cO w).map V.str):=aS.kt (ab.kt (S.trans L)) I;refine⟨_,rfl,.inr (.inl ⟨g,_,1,.str w,rfl,rfl,aS.sq M,aN (j:=1) rfl,_,rfl,(by show 2<=aj;decide),fun q hq=>?_⟩)⟩;have Y:ab t (upd t q (.tup [.str w,v])):=ab.new hq;have q3:upd t q (.tup [.str w,v]) q=some (.tup [.str w,v]):=aa;generalize upd t q (.tup [.str w,v])=H3 at Y q3 ⊢;have m:=L.trans Y;have h3:=m _ _ h1;have kt:gg H3 (upd H3 l (.lst (f++[.ref q]))):=dO h3;have u:f.length<=1000:=by
   rw[Paired.length r,uE,aA];omega
  refine⟨h3,ar u,n5 hi ⟨fun b o e=>?_,aa,?_⟩⟩
  ·rw[ai (ae e T)];exact m _ _ (S _ _ e)
  ·rw[take_snoc hw,take_snoc hd,List.zipWith_append (by rw[aA,aA,z])];refine d_ (gO.kt (fun b xs e=>kt _ _ (ab.kt m _ _ e)) r) ?_;exact⟨q,_,rfl,.inl (kt _ _ q3),_,_,rfl,e_ w,_,_,rfl,cV.kt (fun b xs e=>kt _ _ (ab.kt (S.trans m) _ _ e)) _ _ J,rfl⟩
theorem gE{a:Zb}{e:List DT}{d:DT}(h:e[a.length]?=some d):eW a none e=.t [fG "wait",.t (fR eM a (e.take a.length)),d]:=by
 show DT.t [_,_,(e[a.length]?).getD _]=_;rw[h];rfl
theorem gD{f:Zb}{e:List DT}{a:Str}{d:DT}(h:e[0]?=some d):eW f (some a) e=.t [fG "tell",fG a,d,.t (fR eM f (e.drop 1))]:=by
 show DT.t [_,_,(e[0]?).getD _,_]=_;rw[h];rfl
inductive m7(K:Za)(vs:List V)(H:Hp)(Q:VK)(E:XK):Prop
 |mk (sl pl:Addr) (vs':List V) (ps:List DT) (ask:Option Str) (J2:Zb):(vs=[.ref sl,.ref pl])->(dH K H sl (aP J2 ask))->(H pl=some (.lst vs'))->(gO K H vs' ps)->(ps.length=J2.length+1)->(J2.length<=4)->(∀(v:V) (H':Hp),cV K H' (eW J2 ask ps) v->ab H H'->Q v H')->m7 K vs H Q E
theorem FP{K:Za}{m:List V}{H:Hp}{Q:VK}{E:XK}(h:m7 K m H Q E):zc K (bq Q) (start AN m) H:=by
 obtain⟨sl,pl,m,ps,ask,e,rfl,⟨l,u,hG⟩,C,hP,zp,z4,k⟩:=h;have zv:m.length=e.length+1:=by rw[Paired.length hP,zp]
 cases ask with
 |some a =>
  have t:Paired (fun g (sg:Sg)=>aS K H g (sg.map V.str)) l (dW a::e.map cO):=hG;obtain⟨D,e0,G⟩:=Paired.get (i:=0) t rfl;have I:(l.map V.ref)[0]?=some (.ref D):=by rw[cC,e0];rfl
  refine⟨_,rfl,sl,_,0,.ref D,rfl,rfl,ay.of u,aN (j:=0) I,D,_,0,.str "ask",rfl,rfl,aS.sq G,aN (j:=0) rfl,rfl,_,rfl,?_⟩;rw[zzr1 rfl];refine bG ?_;refine⟨_,rfl,_,rfl,sl,_,rfl,ay.of u,fun x T=>?_⟩;rw[show gq (l.map V.ref) (some 1) none=(l.drop 1).map V.ref from(pr _ 1).trans (yH ..).symm];have U:ab H (upd H x (.lst ((l.drop 1).map V.ref))):=ab.new T;have o:upd H x (.lst ((l.drop 1).map V.ref)) x=some (.lst ((l.drop 1).map V.ref)):=aa;generalize upd H x (.lst ((l.drop 1).map V.ref))=J at U o ⊢;refine⟨_,rfl,_,rfl,pl,_,rfl,ay.of (U _ _ C),fun y Y=>?_⟩;rw[show gq m (some 1) none=m.drop 1 from pr _ 1];have L:ab J (upd J y (.lst (m.drop 1))):=ab.new Y;have p2:upd J y (.lst (m.drop 1)) y=some (.lst (m.drop 1)):=aa;generalize upd J y (.lst (m.drop 1))=H2 at L p2 ⊢;have p:=U.trans L;refine⟨x,y,rfl,.inl ⟨⟨_,ay.of (L _ _ o)⟩,⟨_,ay.of p2⟩,fun f hf=>?_⟩⟩;have al:Fo K H2 (l.drop 1) (e.map cO):=Fo.kt (ab.kt p) (Paired.dropP 1 t);refine vZ (ps:=ps.drop 1) (L _ _ o) al p2 (gO.kt (ab.kt p) (Paired.dropP 1 hP)) (by rw[eF];omega) z4 hf fun q A h3 hU S3=>?_;have s:=p.trans S3;obtain⟨v0,B⟩:∃v,m[0]?=some v:=⟨_,bM (by omega)⟩;obtain⟨d0,an,ap⟩:=Paired.getL hP B;refine⟨_,rfl,sl,_,0,.ref D,rfl,rfl,ay.of (s _ _ u),aN (j:=0) I,D,_,1,.str a,rfl,rfl,aS.sq (aS.kt (ab.kt s) G),aN (j:=1) rfl,_,rfl,pl,_,0,v0,rfl,rfl,ay.of (s _ _ C),aN (j:=0) B,_,rfl,f,q,rfl,.inl ⟨ay.of h3,fun n as=>⟨(by show 4<=aj;decide),fun r hr=>?_⟩⟩⟩;have N:ab A (upd A n (.tup q)):=ab.new as;have t4:upd A n (.tup q) n=some (.tup q):=aa
  change upd A n (.tup q) r=none at hr
  show Q (.ref r) (upd (upd A n (.tup q)) r (.tup [.str "tell",.str a,v0,.ref n]));generalize upd A n (.tup q)=H4 at N t4 hr ⊢;have M:ab H4 (upd H4 r (.tup [.str "tell",.str a,v0,.ref n])):=ab.new hr;refine k _ _ ?_ ((s.trans N).trans M);rw[gD an];exact⟨r,_,rfl,.inl aa,_,_,rfl,e_ _,_,_,rfl,e_ _,_,_,rfl,cV.kt (ab.kt ((s.trans N).trans M)) _ _ ap,_,_,rfl,⟨n,q,rfl,.inl (M _ _ t4),gO.all (gO.kt (ab.kt (N.trans M)) hU)⟩,rfl⟩
 |none =>
  have t:Paired (fun g (sg:Sg)=>aS K H g (sg.map V.str)) l (e.map cO++[bX]):=hG;have zg:l.length=e.length+1:=by rw[Paired.length t,aO,ah];rfl
  obtain⟨s0,O,a0,a4⟩:∃s0 O,(e.map cO++[bX])[0]?=some (s0::O)/\s0≠("ask":Str):=by
   cases e with
   |nil=>exact⟨_,_,rfl,by decide⟩
   |cons w ws=>exact⟨_,_,rfl,by decide⟩
  obtain⟨D,e0,G⟩:=Paired.get (i:=0) t a0;have I:(l.map V.ref)[0]?=some (.ref D):=by rw[cC,e0];rfl
  refine⟨_,rfl,sl,_,0,.ref D,rfl,rfl,ay.of u,aN (j:=0) I,D,_,0,.str s0,rfl,rfl,aS.sq G,aN (j:=0) rfl,rfl,_,rfl,?_⟩;rw[zzr0 (fun z=>a4 (by injection z))];refine bt ?_;refine⟨_,rfl,_,rfl,_,rfl,sl,_,rfl,ay.of u,fun x T=>?_⟩;rw[show gq (l.map V.ref) none (some (-1))=(l.take e.length).map V.ref by rw[sy,ah,zg,yI];rfl];have U:ab H (upd H x (.lst ((l.take e.length).map V.ref))):=ab.new T;have o:upd H x (.lst ((l.take e.length).map V.ref)) x=some (.lst ((l.take e.length).map V.ref)):=aa;generalize upd H x (.lst ((l.take e.length).map V.ref))=J at U o ⊢;refine⟨_,rfl,_,rfl,_,rfl,pl,_,rfl,ay.of (U _ _ C),fun y Y=>?_⟩;rw[show gq m none (some (-1))=m.take e.length by rw[sy,zv];rfl];have L:ab J (upd J y (.lst (m.take e.length))):=ab.new Y;have p2:upd J y (.lst (m.take e.length)) y=some (.lst (m.take e.length)):=aa;generalize upd J y (.lst (m.take e.length))=H2 at L p2 ⊢;have p:=U.trans L;refine⟨x,y,rfl,.inl ⟨⟨_,ay.of (L _ _ o)⟩,⟨_,ay.of p2⟩,fun f hf=>?_⟩⟩;have al:Fo K H2 (l.take e.length) (e.map cO):=by
   have:=Paired.takeP e.length t;rw[List.take_left' (by rw[ah])]at this;exact Fo.kt (ab.kt p) this
  refine vZ (ps:=ps.take e.length) (L _ _ o) al p2 (gO.kt (ab.kt p) (Paired.takeP e.length hP)) (by rw[aA];omega) z4 hf fun q A h3 hU S3=>?_;have s:=p.trans S3;obtain⟨v0,B⟩:∃v,m[e.length]?=some v:=⟨_,bM (by omega)⟩;obtain⟨d0,an,ap⟩:=Paired.getL hP B;refine⟨_,rfl,f,q,rfl,.inl ⟨ay.of h3,fun n as=>?_⟩⟩;have N:ab A (upd A n (.tup q)):=ab.new as;have t4:upd A n (.tup q) n=some (.tup q):=aa;generalize upd A n (.tup q)=H4 at N t4 ⊢;have aC:=s.trans N;refine⟨_,rfl,_,rfl,pl,_,-1,v0,rfl,rfl,ay.of (aC _ _ C),Fk zv.symm B,(by show 3<=aj;decide),fun r hr=>?_⟩;have M:ab H4 (upd H4 r (.tup [.str "wait",.ref n,v0])):=ab.new hr;refine k _ _ ?_ (aC.trans M);rw[gE an];exact⟨r,_,rfl,.inl aa,_,_,rfl,e_ _,_,_,rfl,⟨n,q,rfl,.inl (M _ _ t4),gO.all (gO.kt (ab.kt (N.trans M)) hU)⟩,_,_,rfl,cV.kt (ab.kt (aC.trans M)) _ _ ap,rfl⟩
theorem MK{x i:Int}{b:Nat}(a:0<x)(h:cc.Int.intBits x<=b)(e:b<=9000):Lu i x:=by
 refine⟨a,?_⟩;unfold cc.Int.intBits at h;rw[if_neg (by simp;omega)]at h;omega
def pc:Nat->Nat
 |0=>0
 |d+1=>13+60 * nB d+5 * pc d
inductive kP(K:Za)(Cm Ck Cd:Addr)(D:Nat)(vs:List V)(H:Hp)(Q:VK)(E:XK):Prop
 |mk (H0:Hp) (x sl y M kd cd:Addr) (us:Ze) (v:V) (kv cv:List (TK×V)) (n d:Nat) (number:Int) (face J0 J2 J4:Zb) (ds:List ao):(vs=[.ref x,v,.int (d:Nat),.int number])->(d<=D)->(xf Cm Ck Cd H0 x sl y M kd cd us J0 J2 J4 ds)->(dI H0 H kd cd kv cv J0 J2 J4 ds n)->(Ft H v face)->(v≠.non->face≠[])->(∀r∈face,r∈J4)->(face.length<=1000)->(0<=number)->(number<cntM J0 J2 J4 ds d face)->(n+pc d<=1000000) ->
  (∀(v':V) (kv' cv':List (TK×V)) (H':Hp),cV K H' (nthM J0 J2 J4 ds d face number) v'->dI H0 H' kd cd kv' cv' J0 J2 J4 ds (n+pc d)->Kp H H'->Gr kv kv'->Q v' H')->kP K Cm Ck Cd D vs H Q E
inductive qh(K:Za)(Cm Ck Cd:Addr)(D:Nat)(vs:List V)(H:Hp)(Q:VK)(E:XK):Prop
 |mk (H0:Hp) (x sl y M kd cd u kl:Addr) (us:Ze) (kv cv:List (TK×V)) (n d:Nat) (ask:Option Str) (number:Int) (face J0 J2 J4:Zb) (ds:List ao):(vs=[.ref x,.ref u,.int ((d+1:Nat)),.ref kl,.int number])->(d<=D)->(d<=4)->(xf Cm Ck Cd H0 x sl y M kd cd us J0 J2 J4 ds)->(dI H0 H kd cd kv cv J0 J2 J4 ds n)->(H u=some (.tup (face.map V.str)))->(∀r∈face,r∈J4)->(face.length<=1000)->(dH K H kl (aP J2 ask))->(∀sg∈aP J2 ask,sg∈bW J0 J2)->(n+1+5 * (nB d+pc d)<=1000000) ->
  (∀(v':V) (kv' cv':List (TK×V)) (H':Hp),cV K H' (laidM J0 J2 J4 ds d (nthM J0 J2 J4 ds d) face ask number) v'->dI H0 H' kd cd kv' cv' J0 J2 J4 ds (n+1+5 * (nB d+pc d))->Kp H H'->Gr kv kv'->Q v' H')->qh K Cm Ck Cd D vs H Q E
theorem Kd{K:Za}{Cm Ck Cd:Addr}{D:Nat}{vs:List V}{H:Hp}{Q:VK}{E:XK}(h:qh K Cm Ck Cd D vs H Q E):tK K (m7 K) Cd (kP K Cm Ck Cd D) (gS Cm Ck Cd 4) (ib Cm Ck Cd) (bq Q) (start ub vs) H:=by
 obtain⟨H0,x,sl,y,M,kd,cd,u,kl,us,kv,cv,n,d,ask,number,a,B,g,J4,f,rfl,hD,d4,St,Dy,hu,G,hz,hk,bi,hn,k⟩:=h;obtain⟨dx,fs,g0,l1,l2,l3,l4⟩:=St.ob;have mo:=St.ks.mach.ok;have z1:=mo.asks4;have z2:=mo.says4;have z3:=mo.rooms26;refine⟨_,rfl,x,dx,fs,rfl,Dy.ks.same _ _ g0,l4 "steps_from" (by decide +kernel) (by decide +kernel) (by decide +kernel),_,rfl,H0,x,sl,y,M,kd,cd,u,us,kv,cv,n,a,B,g,J4,f,rfl,St,Dy,hu,G,hz,by omega,fun sd a7 ce H1 D1 v1 _ _ bl bn=>?_⟩;have t:Kp H H1:=Kp.exB Dy.ks.hkd rfl bl;refine⟨(by show 0<=aj;decide),fun l I=>?_⟩;have S2:ab H1 (upd H1 l (.lst [])):=ab.new I;have a8:upd H1 l (.lst []) l=some (.lst []):=aa;generalize upd H1 l (.lst [])=H2 at S2 a8 ⊢;have D2:=D1.up S2;have bo:=t.trans (ab.kp S2);obtain⟨ss,U,aC⟩:=hk;have bz:=bo _ _ U rfl;have ch:kl≠l:=ae (t _ _ U rfl) I;refine⟨_,rfl,?_⟩;refine⟨_,rfl,kl,_,rfl,ay.of bz,?_⟩;have zk:=cq g ask;have zs:ss.length=g.length+1:=by rw[Paired.length aC,zk]
 have a9:H0 l=none:=D1.ks.same.free I
 let bI:Nat->L2.St->Hp->Prop:=fun i σ H'=>MN fun(ba bS:List (TK×V)) (vs:List V) (x8 x9:Option V)=>MO (σ=[some (.ref x),some (.ref u),some (.int ((d+1:Nat))),some (.ref kl),some (.int number),some (.ref sd),some (.ref l),some (.int (J_ (fun sg=>cntM B g J4 f d (behF J4 f a sg)) ((aP g ask).reverse.take i) number)),x8,x9]) (H' l=some (.lst vs)) (gO K H' vs (Ax (fun sg=>cntM B g J4 f d (behF J4 f a sg)) (fun sg=>nthM B g J4 f d (behF J4 f a sg)) ((aP g ask).reverse.take i) number)) ((∀b o,H1 b=some o->MB o=true->H' b=some o)) (dI H0 H' kd cd ba bS B g J4 f (n+1+i * (nB d+pc d))) (Gr a7 ba)
 refine Fa (xs:=ss.map V.ref) bI
  ⟨a7,cv,[],_,_,rfl,a8,.nil,ab.kp S2,D2.more (fo _ _),.refl _⟩ (fun i σ H' _ zq=>by obtain⟨_,_,_,_,_,_,_,_,bU,_,_⟩:=zq;exact ay.of (bU _ _ (t _ _ U rfl) rfl)) ?_ ?_
 ·rintro i w σ T hw hi ⟨a0,a4,j,x8,x9,rfl,p3,J,Y,D3,L⟩;rw[ah]at hw hi;obtain⟨s,hs,rfl⟩:=bV hw;obtain⟨sg,bc,b1⟩:=Paired.getL aC hs;have an:(aP g ask).reverse[i]?=some sg:=by
   rw[List.getElem?_reverse (by omega),zk,<-zs];exact bc
  have al:=bi sg (bQ bc);have ap:aS K T s (sg.map V.str):=aS.kt (fun b xs e=>Y _ _ (t _ _ e rfl) rfl) b1;obtain⟨f',b2,A,e',_,_,r2,bd⟩:=D3.ks.kok _ (fw (L _ _ v1));injection e' with v q;cases fL v;cases q;have gd:lS K T sd (.ref s) (bu A (fX sg)):=.inr ⟨_,fX sg,s,r2,rfl,pW ap,eg _,rfl⟩;have cl:(i+1) * (nB d+pc d)=i * (nB d+pc d)+(nB d+pc d):=fk _ _;have cb:(i+1) * (nB d+pc d)<=5 * (nB d+pc d):=c7 _ (by omega);have fv:∀{H':Hp},Kp T H'->Ft H' ((bu A (fX sg)).getD .non) (behF J4 f a sg):=fun kp=>by
   rcases bd.look al with⟨v,q⟩|⟨v,u2,q,e3⟩
   ·rw[v,q];exact .inl ⟨rfl,rfl⟩
   ·rw[q];exact .inr ⟨u2,rfl,kp _ _ e3 rfl⟩
  have b3:(bu A (fX sg)).getD .non≠.non->behF J4 f a sg≠[]:=by
   rcases bd.look al with⟨v,q⟩|⟨v,u2,q,e3⟩
   ·rw[q];exact fun z=>absurd rfl z
   ·exact fun _=>v
  have ed:(((d+1:Nat):Int)-1)=(d:Nat):=by omega
  refine⟨_,rfl,_,rfl,x,dx,fs,rfl,D3.ks.same _ _ g0,l4 "count_at" (by decide +kernel) (by decide +kernel) (by decide +kernel),_,rfl,sd,rfl,.inr ⟨_,r2⟩,_,rfl,_,gd,_,rfl,_,_,rfl,rfl,H0,x,sl,y,M,kd,cd,us,(bu A (fX sg)).getD .non,a0,a4,_,d,behF J4 f a sg,B,g,J4,f,?_,d4,St,D3,fv (fun _ _ e _=>e),b3,mQ G,jx (by omega) hz,by omega,fun b4 b5 H4 D4 C bf=>?_⟩
  ·show[V.ref x,_,V.int (((d+1:Nat):Int)-1)]=_;rw[ed]
  have cp:=le B g J4 f d (behF J4 f a sg);refine⟨_,_,rfl,MK cp (jw z1 z2 d _) (by have:=yk d d4;omega),fun p hp=>⟨p,_,rfl,bT.of aa,rfl,_,_,rfl,_,_,rfl,rfl,?_⟩⟩;rw[<-BE (fun sg=>cntM B g J4 f d (behF J4 f a sg)) sg,<-take_snoc an];generalize N:J_ (fun sg=>cntM B g J4 f d (behF J4 f a sg)) ((aP g ask).reverse.take i) number % cntM B g J4 f d (behF J4 f a sg)=a5;have S5:ab H4 (upd H4 p (.tup [.int (J_ (fun sg=>cntM B g J4 f d (behF J4 f a sg)) ((aP g ask).reverse.take (i+1)) number),.int a5])):=ab.new hp;generalize upd H4 p (.tup [.int (J_ (fun sg=>cntM B g J4 f d (behF J4 f a sg)) ((aP g ask).reverse.take (i+1)) number),.int a5])=H5 at S5 ⊢;have D5:=D4.up S5;have O:Kp T H5:=C.trans (ab.kp S5);obtain⟨f',b2,as,e',_,_,r5,bh⟩:=D5.ks.kok _ (fw ((L.trans bf) _ _ v1));injection e' with v q;cases fL v;cases q;have b6:lS K H5 sd (.ref s) (bu as (fX sg)):=.inr ⟨_,fX sg,s,r5,rfl,pW (aS.kt O.kt ap),eg _,rfl⟩;refine⟨_,rfl,.inl ⟨rfl,_,ay.of (O _ _ p3 rfl)⟩,_,rfl,x,dx,fs,rfl,D5.ks.same _ _ g0,l4 "trial_at" (by decide +kernel) (by decide +kernel) (by decide +kernel),_,rfl,sd,rfl,.inr ⟨_,r5⟩,_,rfl,_,b6,_,rfl,_,_,rfl,rfl,_,rfl,H0,x,sl,y,M,kd,cd,us,(bu as (fX sg)).getD .non,b4,b5,_,d,a5,behF J4 f a sg,B,g,J4,f,?_,hD,St,D5,?_,?_,mQ G,jx (by omega) hz,?_,?_,by omega,fun v6 b7 b8 H6 t6 D6 a6 b9=>?_⟩
  ·show[V.ref x,_,V.int (((d+1:Nat):Int)-1),_]=_;rw[ed]
  ·rcases bh.look al with⟨v,q⟩|⟨v,u2,q,e3⟩
   ·rw[v,q];exact .inl ⟨rfl,rfl⟩
   ·rw[q];exact .inr ⟨u2,rfl,e3⟩
  ·rcases bh.look al with⟨v,q⟩|⟨v,u2,q,e3⟩
   ·rw[q];exact fun z=>absurd rfl z
   ·exact fun _=>v
  ·rw[<-N];exact kJ _ (by omega)
  ·rw[<-N];exact kI _ cp
  have p6:=(O.trans a6) _ _ p3 rfl;have kt:gg H6 (upd H6 l (.lst (j++[v6]))):=dO p6;have zv:j.length<=1000:=by
   rw[Paired.length J,vW,aA];omega
  refine⟨l,_,_,rfl,rfl,p6,ar zv,b7,b8,j++[v6],_,_,rfl,aa,?_,fun b o e no=>?_,?_,(L.trans bf).trans b9⟩
  ·rw[take_snoc an,xW,N];exact d_ (gO.kt (fun b xs e=>kt _ _ ((O.trans a6).kt _ _ e)) J) (cV.kt kt _ _ t6)
  ·rw[ai (ae e I)];exact(O.trans a6) _ _ (Y _ _ e no) no
  ·exact(D6.more (m:=n+1+(i+1) * (nB d+pc d)) (by omega)).cell a9 p6
 ·rintro σ T ⟨a0,a4,j,x8,x9,rfl,p3,J,Y,D3,L⟩;have el:(ss.map V.ref).length=(aP g ask).reverse.length:=by rw[ah,iN,zs,zk]
  rw[el,bb]at J;rw[ah,zs]at D3;have m5:(g.length+1) * (nB d+pc d)<=5 * (nB d+pc d):=c7 _ (by omega);refine⟨_,rfl,.inl ⟨rfl,_,ay.of p3⟩,l,_,rfl,rfl,p3,?_⟩;have kt:gg T (upd T l (.lst j.reverse)):=dO p3;have D4:=D3.cell (ys:=j.reverse) a9 p3;have p4:upd T l (.lst j.reverse) l=some (.lst j.reverse):=aa;have C:Kp H1 (upd T l (.lst j.reverse)):=fun b o e no=>by rw[ai (ae e I)];exact Y _ _ e no
  generalize upd T l (.lst j.reverse)=H4 at kt D4 p4 C ⊢;refine⟨_,rfl,_,rfl,kl,l,_,_,ask,g,rfl,⟨ss,C _ _ (t _ _ U rfl) rfl,Paired.mapP aC fun _ _ r=>aS.kt (t.trans C).kt r⟩,p4,Paired.rev (gO.kt kt J),by rw[iN,vW,iN,zk],z2,fun v' H5 t5 S5=>?_⟩;exact k v' a0 a4 H5 t5 ((D4.up S5).more (by omega)) ((t.trans C).trans (ab.kp S5)) (bn.trans L)
theorem ym{e J4 face:Zb}{ds:List ao}{J2:Zb}{a:Option Str}(h:a∈(askedF e J4 ds face).map some++[none]):∀f∈aP J2 a,f∈bW e J2:=by
 have g:aP J2 a∈kindsF e J2 J4 ds face:=by rw[iH];exact lW h
 exact(sm g).2
theorem Ke{K:Za}{Cm Ck Cd bl en:Addr}(c:DC K Cd)(hb:∀H,bT K H bl (dw.map V.str))(he:∀H,bT K H en (eQ.map V.str)){D:Nat}{spT:Sp}(d5:D<=4)(hT:∀m,D=m+1->spT=qh K Cm Ck Cd m){vs:List V}{H:Hp}{Q:VK}{E:XK}(h:kP K Cm Ck Cd D vs H Q E):tL K Cd spT (iE K Cm Ck Cd 4) (i_ K Cm Ck Cd) en bl (bq Q) (start uc vs) H:=by
 obtain⟨C,x,sl,y,M,G,I,us,v,kv,cv,n,d,number,face,g,J2,J4,ds,rfl,hD,St,Dy,hv,p,o,hz,n0,nl,hn,k⟩:=h;obtain⟨dx,fs,g0,l1,l2,l3,l4⟩:=St.ob;have mo:=St.ks.mach.ok;have z1:=mo.asks4;have z2:=mo.says4;refine⟨_,rfl,_,rfl,?_⟩;rcases hv with⟨rfl,rfl⟩|⟨u,rfl,hu⟩
 ·refine bG ?_;refine k _ kv cv H ?_ (Dy.more (by omega)) (fun _ _ e _=>e) (.refl _);rw[Iw];exact mn (pV hb H)
 have p:=p (by intro z;cases z);refine bt ?_;refine⟨_,rfl,rfl,_,rfl,?_⟩;by_cases s:number=0
 ·rw[zzr1 (by rw[s])];refine bG ?_;refine k _ kv cv H ?_ (Dy.more (by omega)) (fun _ _ e _=>e) (.refl _);rw[s,Ix p];exact mn (pV he H)
 rw[zzr0 (by intro z;injection z with z;exact s z)];refine bt ?_
 match d,hD,hn,nl,k with
 |0,_,_,nl,_ =>
  unfold cntM at nl;omega
 |d+1,hD,hn,nl,k =>
 obtain⟨m,rfl⟩:∃m,D=m+1:=⟨D-1,by omega⟩;cases hT m rfl;rw[AC p]at nl;have nb:pc (d+1)=13+60 * nB d+5 * pc d:=rfl;refine⟨_,rfl,_,_,rfl,rfl,?_⟩;refine⟨_,rfl,x,dx,fs,rfl,Dy.ks.same _ _ g0,l4 "kinds_at" (by decide +kernel) (by decide +kernel) (by decide +kernel),_,rfl,C,x,sl,y,M,G,I,u,us,kv,cv,n,face,g,J2,J4,ds,rfl,St,Dy,hu,o,hz,by omega,fun l ks J H1 hl hK D1 aC a7=>?_⟩;have u1:=aC _ _ hu rfl;rw[iH]at hK;generalize hA:((askedF g J4 ds face).map some++[none]:List (Option Str))=A at hK nl;have zA:A.length<=5:=by
  rw[<-hA,aO,ah];have:(askedF g J4 ds face).length<=4:=aD (dk _ _) z1;show _+1<=5;omega
 have a0:∀a∈A,∀sg∈aP J2 a,sg∈bW g J2:=fun a ha=>ym (J4:=J4) (ds:=ds) (face:=face) (by rw[hA];exact ha);refine⟨fun w σ H'=>∃(j r:List (TK×V)) (i:Nat) (left:Int),w+i=5/\σ=[some (.ref x),some (.ref u),some (.int ((d+1:Nat))),some (.int number),some (.int left),some (.ref l),some (.int (i:Nat))]/\K0 (prodA g J2 J4 ds d face) A (number-1) i left/\Kp H1 H'/\dI C H' G I j r g J2 J4 ds (n+1+i * (2 * (1+5 * nB d)))/\Gr J j,
  ⟨5,J,cv,0,number-1,rfl,rfl,⟨rfl,by omega,by show number-1<(A.map _).sum;omega⟩,fun _ _ e _=>e,D1.more (fo _ _),.refl _⟩,?_⟩
 rintro w σ H2 ⟨a8,a9,i,left,ew,rfl,pk,t,D2,a4⟩;obtain⟨a,ea,_⟩:=pk.at;have il:i<A.length:=(cj.1 ea).1;have bi:(i+1) * (2 * (1+5 * nB d))=i * (2 * (1+5 * nB d))+2 * (1+5 * nB d):=fk _ _;have bh:i * (2 * (1+5 * nB d))<=4 * (2 * (1+5 * nB d)):=c7 _ (by omega);obtain⟨q,hq,L⟩:=Paired.get (i:=i) (y:=aP J2 a) hK (by rw[cC,ea];rfl);have N:(ks.map V.ref)[i]?=some (.ref q):=by rw[cC,hq];rfl
 have zp:(aP J2 a).length<=5:=by rw[cq];omega
 have O:=a0 a (bQ ea);refine⟨_,rfl,_,rfl,x,dx,fs,rfl,D2.ks.same _ _ g0,l4 "count_of" (by decide +kernel) (by decide +kernel) (by decide +kernel),_,rfl,_,rfl,_,rfl,_,rfl,l,_,(i:Int),.ref q,rfl,rfl,ay.of (t _ _ hl rfl),aN N,C,x,sl,y,M,G,I,u,q,us,a8,a9,_,d,aP J2 a,face,g,J2,J4,ds,rfl,by omega,by omega,St,D2,t _ _ u1 rfl,o,hz,L.kp t,O,zp,by omega,fun T U H3 D3 ba a5=>?_⟩
 change dI C H3 G I T U g J2 J4 ds _ at D3
 refine⟨_,_,rfl,rfl,_,rfl,?_⟩;have f:=t.trans ba;by_cases a6:left<prodA g J2 J4 ds d face a
 ·rw[zzr0 (by show ¬(left ≥ prodA g J2 J4 ds d face a);omega)];refine bt ?_;have e:=pk.stop ea a6;rw[<-hA]at e;refine⟨_,rfl,x,dx,fs,rfl,D3.ks.same _ _ g0,l4 "trial_of" (by decide +kernel) (by decide +kernel) (by decide +kernel),_,rfl,_,rfl,_,rfl,_,rfl,l,_,(i:Int),.ref q,rfl,rfl,ay.of (f _ _ hl rfl),aN N,_,rfl,C,x,sl,y,M,G,I,u,q,us,T,U,_,d,a,left,face,g,J2,J4,ds,rfl,by omega,by omega,St,D3,f _ _ u1 rfl,o,hz,L.kp f,O,by omega,fun v4 Y al H4 t4 D4 an ap=>?_⟩;refine k v4 Y al H4 ?_ (D4.more (by omega)) ((aC.trans f).trans an) (a7.trans (a4.trans (a5.trans ap)));rw[Gn p s e];exact t4
 ·rw[zzr1 (by show left ≥ prodA g J2 J4 ds d face a;omega)];refine bG ?_;have B:=pk.next ea a6;obtain⟨_,bc,_⟩:=B.at;have bn:i+1<A.length:=(cj.1 bc).1;refine⟨fun σ H'=>∃(j r:List (TK×V)) (left:Int),σ=[some (.ref x),some (.ref u),some (.int ((d+1:Nat))),some (.int number),some (.int left),some (.ref l),some (.int ((i+1:Nat)))]/\K0 (prodA g J2 J4 ds d face) A (number-1) (i+1) left/\Kp H1 H'/\dI C H' G I j r g J2 J4 ds (n+1+(i+1) * (2 * (1+5 * nB d)))/\Gr J j,?_,?_⟩
  ·rintro σ' H' ⟨j,r,as,rfl,B,bd,D',bf⟩;exact⟨w-1,by omega,j,r,i+1,as,by omega,rfl,B,bd,D',bf⟩
  refine⟨_,rfl,_,rfl,x,dx,fs,rfl,D3.ks.same _ _ g0,l4 "count_of" (by decide +kernel) (by decide +kernel) (by decide +kernel),_,rfl,_,rfl,_,rfl,_,rfl,l,_,(i:Int),.ref q,rfl,rfl,ay.of (f _ _ hl rfl),aN N,C,x,sl,y,M,G,I,u,q,us,T,U,_,d,aP J2 a,face,g,J2,J4,ds,rfl,by omega,by omega,St,D3,f _ _ u1 rfl,o,hz,L.kp f,O,zp,by omega,fun Y al H4 D4 an ap=>?_⟩;refine⟨_,_,rfl,rfl,_,rfl,_,_,rfl,rfl,Y,al,_,?_,B,f.trans an,D4.more (by omega),a4.trans (a5.trans ap)⟩;show[some (V.ref x),_,_,_,some (V.int (left-prodA g J2 J4 ds d face a)),_,some (V.int ((i:Nat)+1))]=_;rw[show((i:Nat):Int)+1=((i+1:Nat):Int) by omega]
theorem K9:∀d,d<=4->nB d+pc d<=900000:=by
 intro d a
 match d,a with
 |0,_=>decide
 |1,_=>decide
 |2,_=>decide
 |3,_=>decide
 |4,_=>decide
inductive nh(K:Za)(Cm:Addr)(vs:List V)(H:Hp)(Q:VK)(E:XK):Prop
 |mk (M:Addr) (d:Nat) (number:Int) (J0 J2 J4:Zb) (ds:List ao):(vs=[.ref M,.int (d:Nat),.int number])->(d<=4)->(bY Cm H M J0 J2 J4 ds)->(0<=number)->(number<cntM J0 J2 J4 ds d (closF J4 ds (J4.take 1)))->(∀v H',cV K H' (nthM J0 J2 J4 ds d (closF J4 ds (J4.take 1)) number) v->ab H H'->Q v H')->nh K Cm vs H Q E
theorem FZ{K:Za}{f s a:Addr}(c:DC K a){D:List V}{H:Hp}{Q:VK}{E:XK}(h:nh K f D H Q E):FE K a (kP K f s a 4) (cu f) (gS f s a 4) (kg f s a) cH (bq Q) (start GZ D) H:=by
 obtain⟨M,d,number,g,i,j,l,rfl,q,r,n0,nl,k⟩:=h;have z3:=r.ok.rooms26;have bd:=K9 d q;refine⟨_,rfl,d,rfl,q,?_⟩;refine⟨_,rfl,fun x u G v ne=>?_⟩;have S0:ab H (upd (upd H u (.own x)) x (.ins a u [])):=fun b o e=>by rw[ai (ae e G)];exact kp e v
 refine⟨H,x,u,M,g,i,j,l,rfl,aa,r,G,S0,fun I J y L N O H1 St w S1=>⟨rfl,?_⟩⟩;obtain⟨m,n,T,_,_,_,U⟩:=St.ob;refine⟨_,rfl,_,_,rfl,rfl,_,rfl,?_⟩;rw[zzr0 (by omega)];refine bt ?_;refine⟨_,rfl,_,rfl,x,m,n,rfl,w.ks.same _ _ T,U "count_at" (by decide +kernel) (by decide +kernel) (by decide +kernel),_,rfl,M,g,i,j,l,rfl,St.ks.mach.same w.ks.same,fun t F H2 Y hF S2=>?_⟩;rw[kD hF]at Y;refine⟨_,rfl,I,x,J,y,M,L,N,O,.ref t,[],[],0,d,_,g,i,j,l,rfl,q,St,w.up S2,.inr ⟨t,rfl,Y⟩,fun _=>wa r.ok.rooms0,nK,aD kC (by omega),by omega,fun z A H3 B _ _=>?_⟩;refine⟨_,_,rfl,rfl,_,rfl,?_⟩;rw[zzr0 (by omega)];refine bt ?_;refine⟨_,rfl,x,m,n,rfl,B.ks.same _ _ T,U "trial_at" (by decide +kernel) (by decide +kernel) (by decide +kernel),_,rfl,M,g,i,j,l,rfl,St.ks.mach.same B.ks.same,fun t4 F4 H4 p C S4=>?_⟩;rw[kD C]at p;refine⟨_,rfl,_,rfl,I,x,J,y,M,L,N,O,.ref t4,z,A,_,d,number,_,g,i,j,l,rfl,q,St,B.up S4,.inr ⟨t4,rfl,p⟩,fun _=>wa r.ok.rooms0,nK,aD kC (by omega),n0,nl,by omega,fun v5 al an H5 t5 D5 _ _=>k v5 H5 t5 (S1.trans D5.ks.same)⟩
theorem sk{H:Hp}{a:Ze}{f g:List V}(h:∀t∈a,H t=none):ab H (jW H a f g):=fun b o e=>by
 rw[kq (fun z=>by rw[h b z]at e;cases e)];exact e
theorem xF{α β:Type}{R:α->β->Prop}:∀{e:List α}{g:List β},e.length=g.length->(∀(i:Nat) x y,e[i]?=some x->g[i]?=some y->R x y)->Paired R e g
 |[],[],_,_=>.nil
 |[],_::_,h,_=>by cases h
 |_::_,[],h,_=>by cases h
 |x::e,y::g,h,f=>.cons (f 0 x y rfl rfl) (xF (Nat.succ.inj h) fun i a b j k=>f (i+1) a b j k)
theorem vL{K:Za}{H:Hp}{a:Ze}{J2:Zb}{h:List V}{e:List DT}(m:a.Nodup)(n:∀t∈a,H t=none)(r:a.length=J2.length)(s:J2.length=e.length)(o:gO K H h e):gO K (jW H a (J2.map V.str) h) (a.map V.ref) (fR eM J2 e):=by
 refine xF (by rw[ah,uE];omega) fun i x y p f=>?_;obtain⟨t,j,rfl⟩:=bV p;have u:i<a.length:=(cj.1 j).1;obtain⟨d,k⟩:∃d,e[i]?=some d:=⟨_,bM (by omega)⟩;obtain⟨w,l⟩:∃w,J2[i]?=some w:=⟨_,bM (by omega)⟩;obtain⟨v,q,g⟩:=Paired.get o k;rw[yu,l,k]at f;injection f with f;rw[<-f];exact⟨t,_,rfl,.inl (Ak m j (by rw[cC,l];rfl) q),_,_,rfl,e_ w,_,_,rfl,cV.kt (ab.kt (sk n)) _ _ g,rfl⟩
def uB:Nat->Nat
 |0=>0
 |d+1=>9+30 * (1+lB d)+5 * uB d
open Builtin.Int (intBits)
theorem L_{r:Int}(f:0<=r)(g:r<1000003):intBits r<=20:=by
 unfold cc.Int.intBits;split
 ·decide
 ·next e =>
  have a:r.natAbs≠0:=fun z=>e (by simp;omega);have:=(Nat.log2_lt a (k:=20)).2 (by show r.natAbs<1048576;omega);omega
inductive zT(vs:List V)(H:Hp)(Q:VK)(E:XK):Prop
 |mk (p c:Addr) (many:Int):(vs=[.ref p,.int many])->(gP H p c)->(0<many)->(∀(r:Int) (H':Hp),0<=r->r<many->gP H' p c->bJ p H H'->Q (.int r) H')->zT vs H Q E
theorem LF{K:Za}{q:List V}{H:Hp}{Q:VK}{E:XK}(h:zT q H Q E):FG K fb (bq Q) (start G9 q) H:=by
 obtain⟨p,c,many,rfl,w,s,k⟩:=h;refine⟨22,rfl,by decide,by decide,?_⟩
 let g:Nat->L2.St->Hp->Prop:=fun i σ t=>JA fun(f:Int) (j:Option V)=>M9 (σ=[some (.ref p),some (.int many),some (.int f),j]) (intBits f<=21 * i) (gP t p c) (bJ p H t)
 refine jb (lo:=0) (n:=uJ 22) g ⟨0,_,rfl,by decide,w,bJ.refl _ _⟩ ?_ ?_
 ·rintro i σ u v ⟨f,j,rfl,l,a,e⟩;have v:i<22:=v;refine⟨_,rfl,_,_,rfl,rfl,yB l (show intBits (1000003:Int)<=20 by decide) (by omega),_,rfl,p,c,1000003,rfl,a,by decide,by decide,fun r A x y m o=>?_⟩;refine⟨_,_,rfl,rfl,_,_,rfl,?_,m,e.trs o⟩;have z:=yC l (show intBits (1000003:Int)<=20 by decide);have B:=uG z (L_ x y);omega
 ·rintro σ u ⟨f,j,rfl,l,a,e⟩;exact⟨_,rfl,_,rfl,_,_,rfl,rfl,s,k _ u (kJ _ (by omega)) (kI _ s) a e⟩
theorem Mo:∀d,d<=4->lB d+3 * uB d<=8000000/\dB d<=14:=by
 intro d a
 match d,a with
 |0,_=>decide
 |1,_=>decide
 |2,_=>decide
 |3,_=>decide
 |4,_=>decide
theorem h9.hidD{H:Hp}{a t i j l3 k:Addr}{l:Ze}{m n o:Zb}{p:List ao}{r:List (TK×V)}(h:h9 H t i j l3 k l m n o p)(e:H a=some (.dT r)):h9 (io H a) t i j l3 k l m n o p:=by
 have f:∀{b:Addr}{g:List V},H b=some (.lst g)->io H a b=some (.lst g):=fun{b g} q=>by rw[fh (fun z=>by rw[z,e]at q;cases q)];exact q
 have kt:gg H (io H a):=fun b g q=>by rw[fh (fun z=>by rw[z,e]at q;cases q)];exact q
 exact⟨kt _ _ h.t,f h.a1,f h.a2,f h.a3,f h.a4,h.ds.kt kt⟩
theorem xR{p a:Addr}{H f:Hp}(e:bJ p H f):bJ p (io H a) (io f a):=fun b o q n=>by
 by_cases c:b=a
 ·rw[c,gJ]at q;cases q
 ·rw[fh c]at q ⊢;exact e _ _ q n
theorem Ca{a:Addr}{H f:Hp}(e:ab H f):ab (io H a) (io f a):=fun b o q=>by
 by_cases c:b=a
 ·rw[c,gJ]at q;cases q
 ·rw[fh c]at q ⊢;exact e _ _ q
theorem gP.hid2{H:Hp}{p c a:Addr}(h:gP H p c)(e:p≠a)(f:c≠a):gP (io H a) p c:=by
 obtain⟨x,r,g,i⟩:=h;refine⟨x,r,g,?_⟩;cases i;constructor<;>first|assumption|(rw[fh e];assumption)|(rw[fh f];assumption)
def Mg:TK×V->Prop:=fun _=>False
theorem IA:Lp Mg:=fun _ h=>h.elim
def FI(K:Za):TS :=
 aQ (xy (az r9 (gk (ie K) (aw V0)) (tC (.int 4))) (az r9 (az (dF K) V0 (tC (.int 0))) (tC (.str "tell"))))
def Hb:List Str:=["trial"]
def FH(K:Za):TS :=
 aQ (xy (az r9 (gk (ie K) (aw V0)) (tC (.int 3))) (az r9 (az (dF K) V0 (tC (.int 0))) (tC (.str "wait"))))
def G_:List Str:=["trial"]
def rM(K:Za):TS :=
 aQ (cA 2 [] (B_ K V0) (g6 K 2 (aY U0 (aY U1 (gM)))) (gj) (bj (aT (bj (ak (tC (.str "say")) (aw V0))) V1)))
def sG:List Str:=["pairs"]
def va(K:Za)(sp_is_wait:Sp)(sp_says_and_parts:Sp)(a_HUSH:Addr)(sp_is_tell:Sp):TS :=
 aq (cG (tB (aL sp_is_tell (aw V0))) (aQ (az jC (cT (ak (bj (ak (bj (aT (tC (.str "ask")) (az (dF K) V0 (tC (.int 1))))) (aw (az (dF K) V0 (tC (.int 2)))))) bp)) (aL sp_says_and_parts (aw (az (dF K) V0 (tC (.int 3))))))) (bC))
 (aq (cG (tB (aL sp_is_wait (aw V0))) (aQ (az jC (aL sp_says_and_parts (aw (az (dF K) V0 (tC (.int 1))))) (cT (ak (bj (aT (tC (.ref a_HUSH)) (az (dF K) V0 (tC (.int 2))))) bp)))) (bC))
 (aQ (cT (bp))))
def wm:List Str:=["trial"]
def vb(K:Za)(sp_signed_parts:Sp):TS :=
 aq (aI (cT (bp)) U3)
 (aq (fA (vS K (aw (aL sp_signed_parts (aw V2)))) (g6 K 2 (aY U4 (aY U5 (gM)))) (aq (aI V5 (g6 K 2 (aY U6 (aY U7 (gM)))))
 (dR (Dc K "list" gb V3 (ak (bj (c9 (az (HY K) V0 (bj (aw V4))) (az jC V1 (cT (aw V6))) V7)) bp)))))
 (aQ V3))
def wn:List Str:=["way","story","trial","behind","number","signed","sign","part"]
def Bk(K:Za)(sp_parts_behind:Sp):TS :=
 aq (aI (cT (bp)) U1)
 (aq (aI (cT (aw (bj (c9 (bj (bp)) (cT (bp)) V0)))) U2)
 (aq (vg (be (az Ge (gk (ie K) (aw V2)) (tC (.int 0)))) (aq (aI (JP K "list" LG V2) (g6 K 3 (aY U3 (aY U4 (aY U5 (gM))))))
 (aq (dR (Dc K "list" gb V1 (aw (bj (c9 V3 V4 V5)))))
 (aq (fA (LW K (aw (aL sp_parts_behind (c9 V3 V4 V5)))) U6 (dR (Dc K "list" gb V2 (aw V6))))
 (cG (C2 (be (az r9 (gk (ie K) (aw V3)) (tC (.int 8)))) (be (az Ge (az dS (gk (ie K) (aw V1)) (gk (ie K) (aw V2))) (tC (.int 1000))))) (rS) (bC))))))
 (aQ V1)))
def Cz:List Str:=["trial","found","waiting","way","story","here","one"]
def nS(K:Za)(C_Machine:Addr)(sp_Machine_says:Sp):TS :=
 aQ (az (w6 K) (cA 2 [] (B_ K V1) (g6 K 2 (aY U0 (aY U1 (gM)))) (gj) V0) (cz C_Machine "says" sp_Machine_says [] E0 V0 bp))
def og:List Str:=["M","pairs"]
def pX(K:Za)(a_BLAME:Addr)(a_END:Addr)(sp_is_wait:Sp)(sp_has_says_in_order:Sp)(sp_is_tell:Sp)(C_Machine:Addr)(sp_Machine_asks:Sp):TS :=
 aq (cG (tB (aL sp_is_tell (aw V1))) (aQ (xy (az (vw K false) (az (dF K) V1 (tC (.int 1))) (cz C_Machine "asks" sp_Machine_asks [] E0 V0 bp)) (aL sp_has_says_in_order (aT V0 (az (dF K) V1 (tC (.int 3))))))) (bC))
 (aq (cG (tB (aL sp_is_wait (aw V1))) (aQ (aL sp_has_says_in_order (aT V0 (az (dF K) V1 (tC (.int 1)))))) (bC))
 (aQ (Mq (az (w6 K) V1 (tC (.ref a_END))) (az (w6 K) V1 (tC (.ref a_BLAME))))))
def q_:List Str:=["M","trial"]
def nT(K:Za)(sp_is_so_by_itself:Sp)(sp_with_ways:Sp):TS :=
 aq (aI (aL sp_with_ways (aw V1)) U2)
 (aq (fA (cr K V2) (g6 K 3 (aY U3 (aY U4 (aY U5 (gM))))) (cG (LA (tB (aL sp_is_so_by_itself (aT V0 V5)))) (rS) (bC)))
 (aQ V2))
def oh:List Str:=["M","trial","found","way","story","here"]
def ze(K:Za)(sp_checked_with_ways:Sp):TS :=
 dR (aL sp_checked_with_ways (aT V0 V1))
def AO:List Str:=["M","trial"]
def rR(K:Za)(C_Made:Addr)(sp_Made_kinds_at:Sp)(sp_Made_count_of:Sp)(sp_signed_parts:Sp)(sp_Made_number_of_kind:Sp)(a_END:Addr)(a_BLAME:Addr):TS :=
 aq (cG (tB (vk V1)) (aQ (tIf (be (az (z6 K) V3 (tC (.ref a_BLAME)))) (tC (.int 0)) (tC .non))) (bC))
 (aq (cG (be (az (z6 K) V3 (tC (.ref a_END)))) (aQ (tC (.int 0))) (bC))
 (aq (cG (be (az r9 V2 (tC (.int 0)))) (aQ (tC .non)) (bC))
 (aq (aI (tC (.int 1)) U4)
 (aq (fA (cr K (cz C_Made "kinds_at" sp_Made_kinds_at [] E0 V0 (aw V1))) U5 (aq (cG (be (az (z6 K) V5 (cA 2 [] (cr K (aL sp_signed_parts (aw V3))) (g6 K 2 (aY U0 (aY U1 (gM)))) (gj) V0))) (aq (aI (cz C_Made "number_of_kind" sp_Made_number_of_kind [] E0 V0 (c9 V1 V2 V3)) U6)
 (aQ (tIf (tB (vk V6)) (tC .non) (az dS V4 V6)))) (bC))
 (JQ 4 (cz C_Made "count_of" sp_Made_count_of [] E0 V0 (c9 V1 V2 V5)) (ME fun i j=>i+j))))
 (aQ (tC .non))))))
def sM:List Str:=["self","face","d","trial","ahead","signs","own"]
def lL(K:Za)(sp_signed_parts:Sp)(C_Made:Addr)(sp_Made_count_at:Sp)(sp_Made_number_at:Sp)(sp_Made_steps_from:Sp):TS :=
 aq (aI (cz C_Made "steps_from" sp_Made_steps_from [] E0 V0 (aw V1)) U4)
 (aq (aI (tC (.int 0)) U5)
 (aq (fA (cr K (aL sp_signed_parts (aw V3))) (g6 K 2 (aY U6 (aY U7 (gM)))) (aq (aI (cz C_Made "number_at" sp_Made_number_at [] E0 V0 (c9 (r8 K V4 V6) (az sZ V2 (tC (.int 1))) V7)) U8)
 (aq (cG (tB (vk V8)) (aQ (tC .non)) (bC))
 (aI (az dS (az xA V5 (cz C_Made "count_at" sp_Made_count_at [] E0 V0 (aT (r8 K V4 V6) (az sZ V2 (tC (.int 1)))))) V8) U5))))
 (aQ V5)))
def lQ:List Str:=["self","face","d","trial","steps","number","sign","part","own"]
def Bl(K:Za)(C_Made:Addr)(sp_Made_init:Sp)(sp_Made_number_at:Sp)(cu:Sp)(cH:Sp)(sp_need_trial:Sp):TS :=
 aq (dR (aL sp_need_trial (aT V0 V2)))
 (aq (dR (aL cH (aw V1)))
 (aQ (cz C_Made "number_at" sp_Made_number_at [] E0 (xx C_Made sp_Made_init [] E0 (aw V0)) (c9 (aL cu (aw V0)) V1 V2))))
def CA:List Str:=["M","d","trial"]
inductive Tr where
 |bl
 |en
 |nd (a:Option Str) (ps:List Tr)
mutual
def Tr.dt(J2:Zb):Tr->DT
 |.bl=>fH dw
 |.en=>fH eQ
 |.nd a ps=>eW J2 a (Tr.dts J2 ps)
def Tr.dts(J2:Zb):List Tr->List DT
 |[]=>[]
 |t::r=>Tr.dt J2 t::Tr.dts J2 r
end
theorem Tr.dts_map(a:Zb):∀l:List Tr,Tr.dts a l=l.map (Tr.dt a)
 |[]=>rfl
 |t::r=>by rw[Tr.dts,Tr.dts_map a r];rfl
mutual
def Tr.wf(J0 J2:Zb):Tr->Prop
 |.bl=>True
 |.en=>True
 |.nd a ps=>ps.length=J2.length+1/\(∀w,a=some w->w∈J0)/\Tr.wfs J0 J2 ps
def Tr.wfs(J0 J2:Zb):List Tr->Prop
 |[]=>True
 |t::r=>Tr.wf J0 J2 t/\Tr.wfs J0 J2 r
end
theorem Tr.wfs_mem{a e:Zb}:∀{l:List Tr},Tr.wfs a e l↔∀t∈l,Tr.wf a e t
 |[]=>by simp[Tr.wfs]
 |t::r=>by
  rw[Tr.wfs,Tr.wfs_mem (l:=r)];simp
structure En where
 way:List Nat
 story:List Sg
 tr:Tr
mutual
def ki(J2:Zb)(w:List Nat)(s:List Sg):Tr->List En
 |.bl=>[⟨w,s,.bl⟩]
 |.en=>[⟨w,s,.en⟩]
 |.nd a ps=>⟨w,s,.nd a ps⟩::preEs J2 w s (aP J2 a) 0 ps
def preEs(J2:Zb)(w:List Nat)(s:List Sg)(sgs:List Sg)(i:Nat):List Tr->List En
 |[]=>[]
 |p::ps=>ki J2 (w++[i]) (s++(sgs.take 1)) p++preEs J2 w s (sgs.drop 1) (i+1) ps
end
def qP(w:List Nat)(s:List Sg)(sgs:List Sg)(i:Nat):List Tr->List En
 |[]=>[]
 |p::ps=>⟨w++[i],s++sgs.take 1,p⟩::qP w s (sgs.drop 1) (i+1) ps
def sn(J2:Zb)(e:En):List En :=
 match e.tr with
 |.nd a ps=>qP e.way e.story (aP J2 a) 0 ps
 |_=>[]
def r_(J2:Zb)(e:En):List En:=ki J2 e.way e.story e.tr
theorem vA(f:Zb)(w:List Nat)(s:List Sg):∀(e:List Tr) (a:List Sg) (i:Nat),preEs f w s a i e=(qP w s a i e).flatMap (r_ f)
 |[],_,_=>rfl
 |p::e,a,i=>by
  rw[preEs,vA f w s e];show _=List.flatMap _ (_::_);rw[List.flatMap_cons];rfl
theorem xE(f:Zb)(e:En):r_ f e=e::(sn f e).flatMap (r_ f):=by
 obtain⟨w,s,t⟩:=e;unfold r_ sn;cases t with
 |bl=>rfl
 |en=>rfl
 |nd a g =>
  show _::preEs f w s (aP f a) 0 g=_;rw[vA];rfl
theorem Ic(a:Zb)(e:En):0<(r_ a e).length:=by rw[xE];exact Nat.succ_pos _
theorem B6{g j:Zb}{w:List Nat}{s:List Sg}:∀{f:List Tr}{a:List Sg}{i:Nat},(∀p∈f,Tr.wf g j p)->∀e∈qP w s a i f,Tr.wf g j e.tr
 |[],_,_,_,e,he=>by cases he
 |p::f,a,i,h,e,he=>by
  rcases cn.1 he with rfl|he
  ·exact h p dQ
  ·exact B6 (fun q k=>h q (dY _ k)) e he
theorem KF{g J2:Zb}{e:En}(h:Tr.wf g J2 e.tr):∀k∈sn J2 e,Tr.wf g J2 k.tr:=by
 obtain⟨w,s,t⟩:=e;cases t with
 |bl=>intro k f;cases f
 |en=>intro k f;cases f
 |nd a j =>
  obtain⟨_,_,i⟩:=h;exact B6 (Tr.wfs_mem.1 i)
mutual
def Tr.hgt:Tr->Nat
 |.bl=>0
 |.en=>0
 |.nd _ ps=>Tr.hgts ps+1
def Tr.hgts:List Tr->Nat
 |[]=>0
 |t::r=>max t.hgt (Tr.hgts r)
end
mutual
theorem BN(f:Zb):∀(t:Tr) (w:List Nat) (s:List Sg),∀e∈ki f w s t,e.way.length<=w.length+t.hgt
 |.bl,w,s,e,he=>by rw[eE.1 he];exact fo _ _
 |.en,w,s,e,he=>by rw[eE.1 he];exact fo _ _
 |.nd a g,w,s,e,he=>by
  rcases cn.1 he with rfl|he
  ·exact fo _ _
  ·have:=preEs_way f g w s _ 0 e he;show _<=w.length+(Tr.hgts g+1);omega
theorem preEs_way(g:Zb):∀(a:List Tr) (w:List Nat) (s f:List Sg) (i:Nat),∀e∈preEs g w s f i a,e.way.length<=w.length+1+Tr.hgts a
 |[],_,_,_,_,e,he=>by cases he
 |p::a,w,s,f,i,e,he=>by
  have h:Tr.hgts (p::a)=max p.hgt (Tr.hgts a):=rfl;rcases bL.1 he with he|he
  ·have:=BN g p _ _ e he;rw[aO]at this;have j:([i]:List Nat).length=1:=rfl;omega
  ·have:=preEs_way g a w s _ (i+1) e he;omega
end
def JR:Nat->Nat
 |0=>1
 |h+1=>1+5 * JR h
mutual
theorem BO{i e:Zb}(z:e.length<=4):∀(h:Nat) (t:Tr) (w:List Nat) (s:List Sg),Tr.wf i e t->t.hgt<=h->(ki e w s t).length<=JR h
 |0,.bl,_,_,_,_=>aB _
 |0,.en,_,_,_,_=>aB _
 |0,.nd a f,_,_,_,g=>absurd g (by show ¬Tr.hgts f+1<=0;omega)
 |h+1,.bl,_,_,_,_=>by show 1<=1+_;omega
 |h+1,.en,_,_,_,_=>by show 1<=1+_;omega
 |h+1,.nd a f,w,s,j,g=>by
  obtain⟨l,_,k⟩:=j;have g:Tr.hgts f+1<=h+1:=g;have:=preEs_len z h f w s (aP e a) 0 k (by omega);show(preEs e w s (aP e a) 0 f).length+1<=1+5 * JR h;have:f.length * JR h<=5 * JR h:=c7 _ (by omega);omega
theorem preEs_len{j f:Zb}(z:f.length<=4):∀(h:Nat) (e:List Tr) (w:List Nat) (s a:List Sg) (i:Nat),Tr.wfs j f e->Tr.hgts e<=h->(preEs f w s a i e).length<=e.length * JR h
 |h,[],_,_,_,_,_,_=>cL _
 |h,p::e,w,s,a,i,g,k=>by
  have l:Tr.hgts (p::e)=max p.hgt (Tr.hgts e):=rfl;have m:=BO z h p (w++[i]) (s++a.take 1) g.1 (by omega);have n:=preEs_len z h e w s (a.drop 1) (i+1) g.2 (by omega);show(ki f (w++[i]) (s++a.take 1) p++preEs f w s (a.drop 1) (i+1) e).length<=(e.length+1) * JR h;rw[aO,fk];omega
end
def mN(c:Sg->Int)(f:Sg->Int->Tr):List Sg->Int->List Tr
 |[],_=>[]
 |sg::r,n=>f sg (n % c sg)::mN c f r (n / c sg)
def nthT(J0 J2 J4:Zb)(ds:List ao):Nat->List Str->Int->Tr
 |0,face,_=>if face=[]then .bl else .en
 |d+1,face,n=>if face=[]then .bl else if n=0 then .en else
  match gG (prodA J0 J2 J4 ds d face) ((askedF J0 J4 ds face).map some++[none]) (n-1)with
  |none=>.en
  |some (a,m)=>.nd a (mN (fun sg=>cntM J0 J2 J4 ds d (behF J4 ds face sg)) (fun sg=>nthT J0 J2 J4 ds d (behF J4 ds face sg)) (aP J2 a).reverse m).reverse
theorem xX(c:Sg->Int)(f:Sg->Int->Tr)(g:Tr->DT):∀(l:List Sg) (n:Int),(mN c f l n).map g=Ax c (fun sg n=>g (f sg n)) l n
 |[],_=>rfl
 |sg::r,n=>by rw[mN,bF,xX c f g r];rfl
theorem sv(c:Sg->Int)(f:Sg->Int->Tr):∀(l:List Sg) (n:Int),(mN c f l n).length=l.length
 |[],_=>rfl
 |sg::r,n=>by
  show(mN c f r (n / c sg)).length+1=r.length+1;rw[sv c f r]
theorem xY{c:Sg->Int}{f:Sg->Int->Tr}{P:Tr->Prop}(h:∀sg m,P (f sg m)):∀(l:List Sg) (n:Int),∀x∈mN c f l n,P x
 |[],_,x,hx=>by cases hx
 |sg::r,n,x,hx=>by
  rcases cn.1 hx with rfl|hx
  ·exact h _ _
  ·exact xY h r _ x hx
theorem EQ(j g h:Zb)(i:List ao):∀(d:Nat) (f:Zb) (n:Int),(nthT j g h i d f n).dt g=nthM j g h i d f n
 |0,f,n=>by
  unfold nthT nthM;split<;>rfl
 |d+1,f,n=>by
  unfold nthT nthM;by_cases k:f=[]
  ·rw[if_pos k,if_pos k];rfl
  rw[if_neg k,if_neg k];by_cases l:n=0
  ·rw[if_pos l,if_pos l];rfl
  rw[if_neg l,if_neg l];cases gG (prodA j g h i d f) ((askedF j h i f).map some++[none]) (n-1)with
  |none=>rfl
  |some p =>
   obtain⟨a,m⟩:=p;show eW g a (Tr.dts g _)=laidM _ _ _ _ _ _ _ _ _;unfold laidM;rw[Tr.dts_map,List.map_reverse,xX];have e:(fun(o:Sg) (n:Int)=>Tr.dt g (nthT j g h i d (behF h i f o) n))=fun o=>nthM j g h i d (behF h i f o):=by
    funext o m;exact EQ j g h i d _ m
   rw[e]
theorem qG{c:Option Str->Int}:∀{A:List (Option Str)}{n:Int}{a:Option Str}{m:Int},gG c A n=some (a,m)->a∈A
 |[],_,_,_,h=>by cases h
 |b::r,n,a,m,h=>by
  unfold gG at h;split at h
  ·injection h with h;injection h with h _;rw[<-h];exact dQ
  ·exact dY _ (qG h)
theorem GV{f g a:Zb}{i:List ao}{w:Str}(h:some w∈(askedF f g i a).map some++[none]):w∈f:=by
 rcases bL.1 h with h|h
 ·obtain⟨x,j,e⟩:=aV.1 h;injection e with e;rw[<-e];exact(fZ.1 j).1
 ·cases eE.1 h
theorem EO(i g j:Zb)(k:List ao):∀(d:Nat) (f:Zb) (n:Int),(nthT i g j k d f n).wf i g/\(nthT i g j k d f n).hgt<=d
 |0,f,n=>by
  unfold nthT;split<;>exact⟨trivial,aB _⟩
 |d+1,f,n=>by
  unfold nthT;split
  ·exact⟨trivial,cL _⟩
  ·split
   ·exact⟨trivial,cL _⟩
   ·split
    ·exact⟨trivial,cL _⟩
    ·next a m e =>
     have o:∀t∈(mN (fun s=>cntM i g j k d (behF j k f s)) (fun s=>nthT i g j k d (behF j k f s)) (aP g a).reverse m).reverse,t.wf i g/\t.hgt<=d:=fun t p=>xY (P:=fun t=>t.wf i g/\t.hgt<=d) (fun s m=>EO i g j k d _ m) _ _ t (List.mem_reverse.1 p);have u:∀l:List Tr,(∀t∈l,t.hgt<=d)->Tr.hgts l<=d:=fun l=>by
      induction l with
      |nil=>exact fun _=>cL _
      |cons t r v =>
       intro h;have z:=h t dQ;have A:=v fun q x=>h q (dY _ x);show max t.hgt (Tr.hgts r)<=d;omega
     refine⟨⟨?_,fun w y=>?_,Tr.wfs_mem.2 fun t p=>(o t p).1⟩,?_⟩
     ·rw[iN,sv,iN,cq]
     ·rw[y]at e;exact GV (qG e)
     ·exact yv (u _ fun t p=>(o t p).2)
theorem gO.of{K:Za}{H:Hp}:∀{e:List DT}{a:List V},TrCs K H e a->gO K H a e
 |[],a,h=>by
  have h:a=[]:=h;rw[h];exact .nil
 |p::e,a,h=>by
  obtain⟨v,i,rfl,f,g⟩:=h;exact .cons f (gO.of g)
inductive kT(K:Za)(n:Nat)(w:Str)(vs:List V)(H:Hp)(Q:VK)(E:XK):Prop
 |mk (v:V) (s:Str) (r:List DT):(vs=[v])->(cV K H (.t (fG s::r)) v)->(Q (.bl (decide (r.length+1=n) && decide (s=w))) H)->kT K n w vs H Q E
theorem Fd{a:List V}{r:List DT}{n:Nat}(h:a.length=r.length+1):decide (V.int (a.length:Nat)=V.int (n:Nat))=decide (r.length+1=n):=by
 rw[h];exact decide_eq_decide.2 ⟨fun z=>by injection z with z;omega,fun z=>by rw[z]⟩
theorem dec_str{s w:Str}:decide (V.str s=V.str w)=decide (s=w):=decide_eq_decide.2 ⟨fun z=>by injection z,fun z=>by rw[z]⟩
theorem Ga{K:Za}{e:List V}{H:Hp}{Q:VK}{E:XK}(h:kT K 4 "tell" e H Q E):FI K (bq Q) (start Hb e) H:=by
 obtain⟨v,s,r,rfl,⟨b,o,rfl,f,g⟩,k⟩:=h;have i:=gO.of g;have l:=Paired.length i;obtain⟨y,m,rfl,a,_⟩:=g;have a:y=V.str s:=a;subst a;refine⟨_,rfl,.inl ⟨b,_,rfl,.inr (aS.sq f),rfl,_,rfl,?_⟩⟩;rw[show decide (V.int ((V.str s::m).length:Nat)=V.int 4)=decide (r.length+1=4)from Fd (n:=4) l];by_cases c:r.length+1=4
 ·rw[zzr1 c]at k ⊢;refine bG ⟨_,rfl,b,_,0,.str s,rfl,rfl,aS.sq f,aN (j:=0) rfl,rfl,?_⟩;rw[dec_str];exact k
 ·rw[zzr0 c]at k ⊢;exact bt k
theorem F_{K:Za}{e:List V}{H:Hp}{Q:VK}{E:XK}(h:kT K 3 "wait" e H Q E):FH K (bq Q) (start G_ e) H:=by
 obtain⟨v,s,r,rfl,⟨b,o,rfl,f,g⟩,k⟩:=h;have i:=gO.of g;have l:=Paired.length i;obtain⟨y,m,rfl,a,_⟩:=g;have a:y=V.str s:=a;subst a;refine⟨_,rfl,.inl ⟨b,_,rfl,.inr (aS.sq f),rfl,_,rfl,?_⟩⟩;rw[show decide (V.int ((V.str s::m).length:Nat)=V.int 3)=decide (r.length+1=3)from Fd (n:=3) l];by_cases c:r.length+1=3
 ·rw[zzr1 c]at k ⊢;refine bG ⟨_,rfl,b,_,0,.str s,rfl,rfl,aS.sq f,aN (j:=0) rfl,rfl,?_⟩;rw[dec_str];exact k
 ·rw[zzr0 c]at k ⊢;exact bt k
def KW(K:Za)(H:Hp)(q:Addr)(p:Sg×DT):Prop:=∃s v,H q=some (.tup [.ref s,v])/\aS K H s (p.1.map V.str)/\cV K H p.2 v
theorem KW.kt{K:Za}{H a:Hp}{q:Addr}{p:Sg×DT}(k:gg H a)(h:KW K H q p):KW K a q p:=by
 obtain⟨s,v,e,f,g⟩:=h;exact⟨s,v,k _ _ e,aS.kt k f,cV.kt k _ _ g⟩
abbrev lK(K:Za)(H:Hp)(qs:Ze)(L:List (Sg×DT)):Prop:=Paired (KW K H) qs L
theorem lK.kt{K:Za}{H a:Hp}{qs:Ze}{L:List (Sg×DT)}(k:gg H a)(h:lK K H qs L):lK K a qs L:=Paired.mapP h fun _ _ r=>r.kt k
inductive iY(K:Za)(vs:List V)(H:Hp)(Q:VK)(E:XK):Prop
 |mk (v:V) (ws:Zb) (ps:List DT):(vs=[v])->(cV K H (.t (fR eM ws ps)) v)->(ws.length=ps.length)->(ws.length<=1000)->(∀(l:Addr) (qs:Ze) (H':Hp),H' l=some (.lst (qs.map V.ref))->lK K H' qs ((ws.map cO).zip ps)->ab H H'->Q (.ref l) H')->iY K vs H Q E
theorem zY{K:Za}{O:List V}{H:Hp}{Q:VK}{E:XK}(h:iY K O H Q E):rM K (bq Q) (start sG O) H:=by
 obtain⟨v,A,T,rfl,⟨b,xs,rfl,U,hx⟩,zl,z,k⟩:=h;have Y:=gO.of hx;have hl:=Paired.length Y;rw[uE]at hl;refine⟨_,rfl,b,rfl,⟨_,aS.sq U⟩,fun l m=>?_⟩
 let B:Nat->List V->Hp->Prop:=fun i n g=>∃qs:List Addr,n=qs.map V.ref/\ab H g/\g l=some (.lst n)/\lK K g qs (((A.take i).map cO).zip (T.take i))
 refine mP (xs:=xs) B ⟨[],rfl,ab.new m,aa,.nil⟩ (fun i n g _ zq=>by obtain⟨_,_,S,C,_⟩:=zq;exact⟨C,aS.sq (aS.kt (ab.kt S) U)⟩) ?_ ?_
 ·rintro n g ⟨qs,rfl,S,C,r⟩;have e1:xs.length=A.length:=by omega
  rw[e1,bb,zl,bb]at r;exact k l qs g C r S
 ·rintro i n a x D hi ⟨qs,rfl,S,h1,r⟩;obtain⟨d,hd⟩:∃d,T[i]?=some d:=⟨_,bM (by omega)⟩;obtain⟨w,hw⟩:∃w,A[i]?=some w:=⟨_,bM (by omega)⟩;obtain⟨y,u,s⟩:=Paired.getL Y D;rw[yu,hw,hd]at u;injection u with u;rw[<-u]at s;obtain⟨c,al,rfl,hc,x1,an,rfl,G,j,I,rfl,J,L⟩:=s;have L:I=[]:=L;subst L;cases G;have M:=aS.kt (ab.kt S) hc;refine⟨c,_,rfl,aS.sq M,rfl,_,_,rfl,_,_,rfl,rfl,oS ?_⟩;refine⟨_,rfl,(by show 2<=aj;decide),fun p N=>⟨_,rfl,(by show 2<=aj;decide),fun q t=>?_⟩⟩;have S2:ab a (upd a p (.tup [.str "say",.str w])):=ab.new N;have p2:upd a p (.tup [.str "say",.str w]) p=some (.tup ((cO w).map V.str)):=aa
  change upd a p (.tup [.str "say",.str w]) q=none at t
  have S3:ab (upd a p (.tup [.str "say",.str w])) (upd (upd a p (.tup [.str "say",.str w])) q (.tup [.ref p,j])):=ab.new t;have q3:upd (upd a p (.tup [.str "say",.str w])) q (.tup [.ref p,j]) q=some (.tup [.ref p,j]):=aa;have p3:=S3 _ _ p2;have f:=S2.trans S3;have h3:=f _ _ h1;refine⟨h3,?_,n5 hi ⟨qs++[q],by rw[ax];rfl,fun b o e=>?_,aa,?_⟩⟩
  ·rw[ah,Paired.length r,kG,ah,aA];exact ar (by omega)
  ·rw[ai (ae e m)];exact f _ _ (S _ _ e)
  ·have kt:gg (upd (upd a p (.tup [.str "say",.str w])) q (.tup [.ref p,j])) (upd (upd (upd a p (.tup [.str "say",.str w])) q (.tup [.ref p,j])) l (.lst (qs.map V.ref++[.ref q]))):=dO h3;rw[take_snoc hw,take_snoc hd,ax,List.zip_append (by rw[ah,aA,aA];omega)];refine d_ (lK.kt (fun b xs e=>kt _ _ (ab.kt f _ _ e)) r) ?_;exact⟨p,j,kt _ _ q3,.inl (kt _ _ p3),cV.kt (fun b xs e=>kt _ _ (ab.kt (S.trans f) _ _ e)) _ _ J⟩
def K_(J2:Zb):Tr->List (Sg×DT)
 |.nd a ps=>(aP J2 a).zip (Tr.dts J2 ps)
 |_=>[]
def Tr.ok(J2:Zb):Tr->Prop
 |.nd _ ps=>ps.length=J2.length+1
 |_=>True
theorem Tr.wf.ok{e a:Zb}:∀{t:Tr},t.wf e a->t.ok a
 |.bl,_=>trivial
 |.en,_=>trivial
 |.nd _ _,h=>h.1
inductive i9(K:Za)(vs:List V)(H:Hp)(Q:VK)(E:XK):Prop
 |mk (v:V) (T:Tr) (J2:Zb):(vs=[v])->(cV K H (T.dt J2) v)->(T.ok J2)->(J2.length<=4)->(∀(l:Addr) (qs:Ze) (H':Hp),H' l=some (.lst (qs.map V.ref))->lK K H' qs (K_ J2 T)->ab H H'->Q (.ref l) H')->i9 K vs H Q E
theorem FR{K:Za}{t:Addr}(hh:∀H,bT K H t (bX.map V.str)){vs:List V}{H:Hp}{Q:VK}{E:XK}(h:i9 K vs H Q E):va K (kT K 3 "wait") (iY K) t (kT K 4 "tell") (bq Q) (start wm vs) H:=by
 obtain⟨v,T,o,rfl,p,ok,z4,k⟩:=h;cases T with
 |bl =>
  refine⟨_,rfl,v,"blame",[],rfl,p,_,rfl,?_⟩;refine bt ⟨_,rfl,v,"blame",[],rfl,p,_,rfl,?_⟩;refine bt ⟨(by show 0<=aj;decide),fun l A=>k l [] _ aa .nil (ab.new A)⟩
 |en =>
  refine⟨_,rfl,v,"end",[],rfl,p,_,rfl,?_⟩;refine bt ⟨_,rfl,v,"end",[],rfl,p,_,rfl,?_⟩;refine bt ⟨(by show 0<=aj;decide),fun l A=>k l [] _ aa .nil (ab.new A)⟩
 |nd a N =>
  have ok:N.length=o.length+1:=ok;have zd:(Tr.dts o N).length=o.length+1:=by rw[Tr.dts_map,ah,ok]
  have p:cV K H (eW o a (Tr.dts o N)) v:=p;have k:∀(l:Addr) (qs:Ze) (H':Hp),H' l=some (.lst (qs.map V.ref))->lK K H' qs ((aP o a).zip (Tr.dts o N))->ab H H'->Q (.ref l) H':=k;generalize Tr.dts o N=g at zd p k;cases a with
  |some a =>
   obtain⟨d0,i⟩:∃d,g[0]?=some d:=⟨_,bM (by omega)⟩;rw[gD i]at p;have ec:g=d0::g.drop 1:=by
    cases g with
    |nil=>cases i
    |cons x r=>injection i with i;rw[i];rfl
   refine⟨_,rfl,v,"tell",_,rfl,p,_,rfl,?_⟩;obtain⟨b,xs,rfl,L,x0,al,rfl,e0,x1,an,rfl,e1,f,O,rfl,e2,x3,ap,rfl,e3,B⟩:=p;have B:ap=[]:=B;subst B;cases e0;cases e1;refine bG ?_;refine⟨_,rfl,b,_,1,.str a,rfl,rfl,aS.sq L,aN (j:=1) rfl,(by show 2<=aj;decide),fun q as=>?_⟩;have C:ab H (upd H q (.tup [.str "ask",.str a])):=ab.new as;have U:upd H q (.tup [.str "ask",.str a]) q=some (.tup ((dW a).map V.str)):=aa;generalize upd H q (.tup [.str "ask",.str a])=m at C U ⊢;refine⟨_,rfl,b,_,2,f,rfl,rfl,aS.sq (aS.kt (ab.kt C) L),aN (j:=2) rfl,(by show 2<=aj;decide),fun e D=>⟨(by show 1<=aj;decide),fun s u=>?_⟩⟩;have S2:ab m (upd m e (.tup [.ref q,f])):=ab.new D;have G:upd m e (.tup [.ref q,f]) e=some (.tup [.ref q,f]):=aa
   change upd m e (.tup [.ref q,f]) s=none at u
   have Y:ab (upd m e (.tup [.ref q,f])) (upd (upd m e (.tup [.ref q,f])) s (.lst [.ref e])):=ab.new u;have w:upd (upd m e (.tup [.ref q,f])) s (.lst [.ref e]) s=some (.lst [.ref e]):=aa;have y:=Y _ _ G;have n:=S2.trans Y;generalize upd (upd m e (.tup [.ref q,f])) s (.lst [.ref e])=H3 at n w y ⊢;have z:=C.trans n;refine⟨_,rfl,b,_,3,x3,rfl,rfl,aS.sq (aS.kt (ab.kt z) L),aN (j:=3) rfl,x3,o,g.drop 1,rfl,cV.kt (ab.kt z) _ _ e3,by rw[eF];omega,by omega,fun l2 qs H4 h4 hq S4=>?_⟩;have zq:qs.length<=4:=by rw[Paired.length hq,kG,ah];omega
   refine⟨s,l2,_,_,rfl,rfl,S4 _ _ w,h4,by rw[ah];exact cW (ar (by show 1+_<=1000;omega)),fun l A=>?_⟩;have M:ab H4 (upd H4 l (.lst ([V.ref e]++qs.map V.ref))):=ab.new A;refine k l (e::qs) _ aa ?_ ((z.trans S4).trans M);rw[ec];have I:=S4.trans M;exact .cons ⟨q,f,I _ _ y,.inl (I _ _ (n _ _ U)),cV.kt (ab.kt (z.trans I)) _ _ e2⟩ (lK.kt (ab.kt M) hq)
  |none =>
   obtain⟨d0,i⟩:∃d,g[o.length]?=some d:=⟨_,bM (by omega)⟩;rw[gE i]at p;have ec:g=g.take o.length++[d0]:=by rw[<-take_snoc i,<-zd,bb]
   refine⟨_,rfl,v,"wait",_,rfl,p,_,rfl,?_⟩;refine bt ⟨_,rfl,v,"wait",_,rfl,p,_,rfl,?_⟩;obtain⟨b,xs,rfl,L,x0,al,rfl,e0,x1,an,rfl,e1,f,O,rfl,e2,B⟩:=p;have B:O=[]:=B;subst B;cases e0;refine bG ?_;refine⟨_,rfl,b,_,1,x1,rfl,rfl,aS.sq L,aN (j:=1) rfl,x1,o,g.take o.length,rfl,e1,by rw[aA];omega,by omega,fun l2 qs m h1 hq C=>?_⟩;have zq:qs.length<=4:=by rw[Paired.length hq,kG,ah];omega
   refine⟨_,rfl,b,_,2,f,rfl,rfl,aS.sq (aS.kt (ab.kt C) L),aN (j:=2) rfl,(by show 2<=aj;decide),fun e D=>⟨(by show 1<=aj;decide),fun s u=>?_⟩⟩;have S2:ab m (upd m e (.tup [.ref t,f])):=ab.new D;have G:upd m e (.tup [.ref t,f]) e=some (.tup [.ref t,f]):=aa
   change upd m e (.tup [.ref t,f]) s=none at u
   have Y:ab (upd m e (.tup [.ref t,f])) (upd (upd m e (.tup [.ref t,f])) s (.lst [.ref e])):=ab.new u;have w:upd (upd m e (.tup [.ref t,f])) s (.lst [.ref e]) s=some (.lst [.ref e]):=aa;have y:=Y _ _ G;have n:=S2.trans Y;generalize upd (upd m e (.tup [.ref t,f])) s (.lst [.ref e])=H3 at n w y ⊢;refine⟨l2,s,_,_,rfl,rfl,n _ _ h1,w,by rw[ah];exact cW (ar (by show _+1<=1000;omega)),fun l A=>?_⟩;have M:ab H3 (upd H3 l (.lst (qs.map V.ref++[.ref e]))):=ab.new A;have J:=n.trans M;refine k l (qs++[e]) _ (by rw[aa,ax];rfl) ?_ (C.trans J);rw[ec];show lK K _ _ ((o.map cO++[bX]).zip _);rw[List.zip_append (by rw[ah,aA];omega)];exact d_ (lK.kt (ab.kt J) hq) ⟨t,f,M _ _ y,pV hh _,cV.kt (ab.kt (C.trans J)) _ _ e2⟩
def Bh(w:List Nat):List V:=w.map fun(n:Nat)=>V.int n
def oo(K:Za)(J2:Zb)(J:Hp)(q:Addr)(e:En):Prop:=∃(wr st:Addr) (v:V),J q=some (.tup [.ref wr,.ref st,v])/\J wr=some (.tup (Bh e.way))/\dH K J st e.story/\cV K J (e.tr.dt J2) v
theorem oo.same{K:Za}{a:Zb}{J f:Hp}{q:Addr}{e:En}(S:ab J f)(h:oo K a J q e):oo K a f q e:=by
 obtain⟨g,st,v,i,j,⟨k,l,m⟩,n⟩:=h;exact⟨g,st,v,S _ _ i,S _ _ j,⟨k,S _ _ l,Paired.mapP m fun _ _ r=>aS.kt (ab.kt S) r⟩,cV.kt (ab.kt S) _ _ n⟩
theorem KR{K:Za}{H:Hp}{f e:Addr}{a:List Nat}{i:Nat}{R:VK}(l:H f=some (.tup (Bh a)))(h:H e=some (.tup [.int (i:Nat)]))(n:a.length<=999)(k:∀(j:Addr) (g:Hp),g j=some (.tup (Bh (a++[i])))->ab H g->R (.ref j) g):HY K (.ref f) (.ref e) H R:=by
 refine⟨f,e,_,_,rfl,rfl,bT.of l,bT.of h,(by intro z;cases z),?_,fun z=>?_,fun z p m=>?_⟩
 ·have:(Bh a).length=a.length:=ah _;rw[this];exact cW (ar (by show _+1<=1000;omega))
 ·have:a=[]:=yD.1 z;subst this;exact k e H h (ab.refl _)
 ·refine k p _ ?_ (ab.new m);rw[aa];unfold Bh;rw[ax];rfl
theorem xN{w:List Nat}{s:List Sg}:∀{ps:List Tr}{sgs:List Sg}{i j:Nat}{p:Tr}{sg:Sg},ps[j]?=some p->sgs[j]?=some sg->(qP w s sgs i ps)[j]?=some ⟨w++[i+j],s++[sg],p⟩
 |[],_,_,_,_,_,h,_=>by cases h
 |p0::ps,[],_,_,_,_,_,h=>by cases h
 |p0::ps,sg0::sgs,i,0,p,sg,a,e=>by
  injection a with a;injection e with e;rw[<-a,<-e];rfl
 |p0::ps,sg0::sgs,i,j+1,p,sg,a,e=>by
  have:=xN (w:=w) (s:=s) (i:=i+1) (ps:=ps) (sgs:=sgs) (j:=j) (p:=p) (sg:=sg) a e;rw[show i+(j+1)=i+1+j by omega];exact this
theorem xM{w:List Nat}{s:List Sg}:∀{e:List Tr}{a:List Sg}{i:Nat},(qP w s a i e).length=e.length
 |[],_,_=>rfl
 |p0::e,a,i=>by
  show(qP w s (a.drop 1) (i+1) e).length+1=e.length+1;rw[xM]
theorem II{J2:Zb}{e:En}(h:e.tr.ok J2):(sn J2 e).length=(K_ J2 e.tr).length:=by
 obtain⟨w,s,t⟩:=e;cases t with
 |bl=>rfl
 |en=>rfl
 |nd a f =>
  have h:f.length=J2.length+1:=h;show(qP w s (aP J2 a) 0 f).length=((aP J2 a).zip (Tr.dts J2 f)).length;rw[xM,kG,cq,Tr.dts_map,ah];omega
theorem IJ{f:Zb}{e:En}{i:Nat}{x:Sg×DT}(h:e.tr.ok f)(g:(K_ f e.tr)[i]?=some x):∃p:Tr,(sn f e)[i]?=some ⟨e.way++[i],e.story++[x.1],p⟩/\p.dt f=x.2:=by
 obtain⟨w,s,t⟩:=e;cases t with
 |bl=>cases g
 |en=>cases g
 |nd a j =>
  have h:j.length=f.length+1:=h;have g:((aP f a).zip (Tr.dts f j))[i]?=some x:=g;rw[yt]at g;obtain⟨l,k⟩:=g;rw[Tr.dts_map,cC]at k;obtain⟨p,m,n⟩:=kH.1 k;refine⟨p,?_,n⟩;have:=xN (w:=w) (s:=s) (i:=0) m l;rw[Nat.zero_add]at this;exact this
def Jq(H:Hp)(c:Addr)(H' J:Hp):Prop:=(∀b o,H' b=some o->H b=none->b≠c->J b=some o)/\gg H' J
inductive m_(K:Za)(vs:List V)(H:Hp)(Q:VK)(E:XK):Prop
 |mk (wr st:Addr) (v:V) (e:En) (J2:Zb):(vs=[.ref wr,.ref st,v])->(H wr=some (.tup (Bh e.way)))->(dH K H st e.story)->(cV K H (e.tr.dt J2) v)->(e.tr.ok J2)->(J2.length<=4)->(e.way.length<=900)->(e.story.length<=900) ->
  (∀(l:Addr) (qs:Ze) (H':Hp),H' l=some (.lst (qs.map V.ref))->H l=none->(∀J,Jq H l H' J->Paired (oo K J2 J) qs (sn J2 e))->ab H H'->Q (.ref l) H')->m_ K vs H Q E
theorem FT{K:Za}{vs:List V}{H:Hp}{Q:VK}{E:XK}(h:m_ K vs H Q E):vb K (i9 K) (bq Q) (start wn vs) H:=by
 obtain⟨wr,st,v,e,J2,rfl,hw,⟨D,aC,I⟩,hv,ok,z4,zw,zs,k⟩:=h;refine⟨(by show 0<=aj;decide),fun bl l=>?_⟩;have S1:ab H (upd H bl (.lst [])):=ab.new l;have b1:upd H bl (.lst []) bl=some (.lst []):=aa;generalize upd H bl (.lst [])=H1 at S1 b1 ⊢;refine⟨_,rfl,v,e.tr,J2,rfl,cV.kt (ab.kt S1) _ _ hv,ok,z4,fun sl sq H2 f L S2=>⟨sl,rfl,⟨_,ay.of f⟩,?_⟩⟩;have w:=S1.trans S2;have b2:=S2 _ _ b1;have a0:sl≠bl∨sq=[]:=by
  by_cases c:sl=bl
  ·right
   rw[c,b2]at f;injection f with f;injection f with f;exact yD.1 f.symm
  ·exact .inl c
 have kl:=II (J2:=J2) (e:=e) ok;have ql:=Paired.length L;have q5:(K_ J2 e.tr).length<=5:=by
  generalize e.tr=T at ok;cases T with
  |bl=>exact cL _
  |en=>exact cL _
  |nd a ps=>show((aP J2 a).zip _).length<=5;rw[kG,cq];omega
 let a4:Nat->L2.St->Hp->Prop:=fun i σ H'=>MN fun(qs:Ze) (x4 x5 x6 x7:Option V)=>Jr (σ=[some (.ref wr),some (.ref st),some v,some (.ref bl),x4,x5,x6,x7]) (H' bl=some (.lst (qs.map V.ref))) (qs.length=i) ((∀b o,H2 b=some o->b≠bl->H' b=some o)) (∀J,Jq H bl H' J->Paired (oo K J2 J) qs ((sn J2 e).take i))
 refine ky (xs:=sq.map V.ref) a4
  ⟨[],_,_,_,_,rfl,b2,rfl,fun _ _ q _=>q,fun J _=>.nil⟩ (fun i σ H' hi ⟨qs,_,_,_,_,_,u,M,ex,_⟩=>?_) ?_ ?_
 ·rcases a0 with n|n
  ·exact ay.of (ex _ _ f n)
  ·rw[n]at hi f ⊢;by_cases c:sl=bl
   ·have:qs=[]:=by cases qs with|nil=>rfl|cons a r=>exact absurd hi (by rw[<-M];show ¬_<=0;simp)
    rw[this]at u;rw[c];exact ay.of u
   ·exact ay.of (ex _ _ f c)
 ·rintro i x σ m p hi ⟨qs,x4,x5,x6,x7,rfl,u,M,ex,hk⟩ hp;obtain⟨q,hq,rfl⟩:=bV hi;obtain⟨y,hy,s,pv,a5,hs,a6⟩:=Paired.getL L hq;obtain⟨T,hT,eT⟩:=IJ ok hy;have il:i<(K_ J2 e.tr).length:=(cj.1 hy).1;have nb:∀{b xs},H2 b=some (.tup xs)->m b=some (.tup xs):=fun{b xs} q=>ex _ _ q fun z=>by rw[z,b2]at q;cases q
  have S4:ab m (upd m p (.tup [.int (i:Nat),.ref q])):=ab.new hp;have p4:upd m p (.tup [.int (i:Nat),.ref q]) p=some (.tup [.int (i:Nat),.ref q]):=aa;generalize upd m p (.tup [.int (i:Nat),.ref q])=H4 at S4 p4 ⊢;refine⟨p,_,rfl,bT.of p4,rfl,_,_,rfl,_,_,rfl,rfl,?_⟩;refine⟨_,rfl,q,_,rfl,bT.of (S4 _ _ (nb a5)),rfl,_,_,rfl,_,_,rfl,rfl,?_⟩;refine⟨_,rfl,.inl ⟨rfl,_,ay.of (S4 _ _ u)⟩,_,rfl,_,rfl,(by show 1<=aj;decide),fun t1 a7=>?_⟩;have S5:ab H4 (upd H4 t1 (.tup [.int (i:Nat)])):=ab.new a7;have t5:upd H4 t1 (.tup [.int (i:Nat)]) t1=some (.tup [.int (i:Nat)]):=aa;generalize upd H4 t1 (.tup [.int (i:Nat)])=H5 at S5 t5 ⊢;have N:=S4.trans S5;have A:∀{b o},H b=some o->m b=some o:=fun{b o} q=>ex _ _ (w _ _ q) (ae q l);refine KR (N _ _ (A hw)) t5 (by omega) fun O H6 a8 S6=>?_;have a9:=N.trans S6;refine⟨_,rfl,_,rfl,(by show 1<=aj;decide),fun U ba=>?_⟩;have S7:ab H6 (upd H6 U (.lst [.ref s])):=ab.new ba;have Y:upd H6 U (.lst [.ref s]) U=some (.lst [.ref s]):=aa;generalize upd H6 U (.lst [.ref s])=H7 at S7 Y ⊢;have t:=a9.trans S7;have gl:D.length=e.story.length:=Paired.length I;refine⟨st,U,_,_,rfl,rfl,t _ _ (A aC),Y,by rw[ah];exact cW (ar (by show _+1<=1000;omega)),fun g B=>?_⟩;have S8:ab H7 (upd H7 g (.lst (D.map V.ref++[.ref s]))):=ab.new B;have al:upd H7 g (.lst (D.map V.ref++[.ref s])) g=some (.lst ((D++[s]).map V.ref)):=by rw[aa,ax];rfl
  have bc:H g=none:=by
   cases c:H g with
   |none=>rfl
   |some o=>have:=t _ _ (A c);rw[B]at this;cases this
  generalize upd H7 g (.lst (D.map V.ref++[.ref s]))=H8 at S8 al ⊢;have bd:=t.trans S8;refine⟨_,rfl,(by show 3<=aj;decide),fun G bf=>?_⟩;have S9:ab H8 (upd H8 G (.tup [.ref O,.ref g,pv])):=ab.new bf;have an:upd H8 G (.tup [.ref O,.ref g,pv]) G=some (.tup [.ref O,.ref g,pv]):=aa;generalize upd H8 G (.tup [.ref O,.ref g,pv])=H9 at S9 an ⊢;have j:=bd.trans S9;have ap:=j _ _ u;have as:g≠bl:=fun z=>by have:=t _ _ u;rw[<-z,B]at this;cases this
  have bh:gg H9 (upd H9 bl (.lst (qs.map V.ref++[.ref G]))):=dO ap;refine⟨bl,_,_,rfl,rfl,ap,by rw[ah,M];exact ar (by omega),qs++[G],_,_,_,_,rfl,by rw[aa,ax];rfl,by rw[aO,M];rfl,fun b o q n=>?_,fun J nj=>?_⟩
  ·rw[ai n];exact j _ _ (ex _ _ q n)
  ·have kj:gg H9 J:=fun b xs q=>nj.2 _ _ (bh _ _ q);have bi:Jq H bl m J:=⟨fun b o q n1 n2=>nj.1 b o (by rw[ai n2];exact j _ _ q) n1 n2,fun b xs q=>kj _ _ (ab.kt j _ _ q)⟩;rw[take_snoc hT];refine d_ (hk J bi) ?_;have C:gg H2 J:=fun b xs q=>kj _ _ (ab.kt j _ _ (nb q));refine⟨O,g,pv,kj _ _ an,kj _ _ (S9 _ _ (S8 _ _ (S7 _ _ a8))),⟨D++[s],nj.1 g _ (by rw[ai as];exact S9 _ _ al) bc as,?_⟩,?_⟩
   ·exact d_ (Paired.mapP I fun _ _ r=>aS.kt (fun b xs q=>C _ _ (ab.kt w _ _ q)) r) (aS.kt C hs)
   ·show cV K J (T.dt J2) pv;rw[eT];exact cV.kt C _ _ a6
 ·rintro σ m ⟨qs,x4,x5,x6,x7,rfl,u,M,ex,hk⟩;rw[ah,ql,<-kl,bb]at hk;exact⟨_,rfl,k bl qs m u l hk fun b o q=>ex _ _ (w _ _ q) (ae q l)⟩
def fj(H:Hp)(f w:Addr):Hp:=fun b=>if b=f∨b=w then none else H b
theorem qR{H:Hp}{f w b:Addr}(a:b≠f)(e:b≠w):fj H f w b=H b:=if_neg (by rintro(z|z)<;>contradiction)
theorem xT{H:Hp}{f w b:Addr}{o:HO}(h:fj H f w b=some o):b≠f/\b≠w/\H b=some o:=by
 unfold fj at h;split at h
 ·cases h
 ·next c=>exact⟨fun z=>c (.inl z),fun z=>c (.inr z),h⟩
theorem nH{H:Hp}{f w:Addr}:ab (fj H f w) H:=fun b o e=>(xT e).2.2
theorem EY{H a:Hp}{f w:Addr}(S:ab H a):ab (fj H f w) (fj a f w):=fun b o e=>by
 obtain⟨g,h,i⟩:=xT e;rw[qR g h];exact S _ _ i
theorem GC{H:Hp}{f w:Addr}{o:HO}:fj (upd H f o) f w=fj H f w:=funext fun b=>by
 unfold fj;split
 ·rfl
 ·next c=>exact ai fun z=>c (.inl z)
theorem xS{H:Hp}{f w:Addr}{o:HO}:fj (upd H w o) f w=fj H f w:=funext fun b=>by
 unfold fj;split
 ·rfl
 ·next c=>exact ai fun z=>c (.inr z)
theorem EnAts.same{K:Za}{a:Zb}{J e:Hp}{qs:Ze}{L:List En}(S:ab J e)(h:Paired (oo K a J) qs L):Paired (oo K a e) qs L:=Paired.mapP h fun _ _ r=>r.same S
theorem Cg{J2:Zb}:∀L:List En,L.length<=(L.flatMap (r_ J2)).length
 |[]=>aB _
 |e::r=>by
  rw[List.flatMap_cons,aO,gC];have:=Ic J2 e;have:=Cg (J2:=J2) r;omega
theorem tq{w:List Nat}{s:List Sg}(h:s.length<=w.length):∀{f:List Tr}{a:List Sg}{i:Nat},∀e∈qP w s a i f,e.story.length<=e.way.length
 |[],_,_,e,he=>by cases he
 |p::f,a,i,e,he=>by
  rcases cn.1 he with rfl|he
  ·show(s++a.take 1).length<=(w++[i]).length;rw[aO,aO,aA];have:([i]:List Nat).length=1:=rfl;omega
  ·exact tq h e he
theorem DD{g:Zb}{e:En}(h:e.story.length<=e.way.length):∀k∈sn g e,k.story.length<=k.way.length:=by
 obtain⟨w,s,t⟩:=e;cases t with
 |bl=>intro k f;cases f
 |en=>intro k f;cases f
 |nd a i=>exact tq h
inductive jG(K:Za)(vs:List V)(H:Hp)(Q:VK)(E:XK):Prop
 |mk (v:V) (T:Tr) (J0 J2:Zb):(vs=[v])->(cV K H (T.dt J2) v)->(T.wf J0 J2)->(J2.length<=4)->((ki J2 [] [] T).length<=1000)->(∀e∈ki J2 [] [] T,e.way.length<8) ->
  (∀(l:Addr) (qs:Ze) (H':Hp),H' l=some (.lst (qs.map V.ref))->Paired (oo K J2 H') qs (ki J2 [] [] T)->(∀e∈ki J2 [] [] T,e.tr.wf J0 J2)->ab H H'->Q (.ref l) H')->jG K vs H Q E
theorem BF{K:Za}{vs:List V}{H:Hp}{Q:VK}{E:XK}(h:jG K vs H Q E):Bk K (m_ K) (bq Q) (start Cz vs) H:=by
 obtain⟨v,T,J0,J2,rfl,hv,wf,z4,zp,zw,k⟩:=h;refine⟨(by show 0<=aj;decide),fun f bc=>?_⟩;have S1:ab H (upd H f (.lst [])):=ab.new bc;have f1:upd H f (.lst []) f=some (.lst []):=aa;generalize upd H f (.lst [])=H1 at S1 f1 ⊢;refine⟨(by show 0<=aj;decide),fun D cd=>?_⟩;have S2:ab H1 (upd H1 D (.tup [])):=ab.new cd;have w2:upd H1 D (.tup []) D=some (.tup (Bh [])):=aa;generalize upd H1 D (.tup [])=H2 at S2 w2 ⊢;refine⟨(by show 0<=aj;decide),fun st bd=>?_⟩;have S3:ab H2 (upd H2 st (.lst [])):=ab.new bd;have s3:upd H2 st (.lst []) st=some (.lst (([]:Ze).map V.ref)):=aa;generalize upd H2 st (.lst [])=H3 at S3 s3 ⊢;refine⟨_,rfl,(by show 3<=aj;decide),fun C ce=>⟨(by show 1<=aj;decide),fun a J=>?_⟩⟩;have S4:ab H3 (upd H3 C (.tup [.ref D,.ref st,v])):=ab.new ce;have q4:upd H3 C (.tup [.ref D,.ref st,v]) C=some (.tup [.ref D,.ref st,v]):=aa
 change upd H3 C (.tup [.ref D,.ref st,v]) a=none at J
 have S5:ab (upd H3 C (.tup [.ref D,.ref st,v])) (upd (upd H3 C (.tup [.ref D,.ref st,v])) a (.lst [.ref C])):=ab.new J;have l5:upd (upd H3 C (.tup [.ref D,.ref st,v])) a (.lst [.ref C]) a=some (.lst (([C]:Ze).map V.ref)):=aa;have ch:st≠f:=(ae (S2 _ _ f1) bd).symm;have cl:st≠a:=ae (S4 _ _ s3) J;have O:f≠a:=ae (S4 _ _ (S3 _ _ (S2 _ _ f1))) J;have bf:H a=none:=(S1.trans (S2.trans (S3.trans S4))).free J;have f5:=S5 _ _ (S4 _ _ (S3 _ _ (S2 _ _ f1)));have s5:=S5 _ _ (S4 _ _ s3);have w5:=S5 _ _ (S4 _ _ (S3 _ _ w2));have q5:=S5 _ _ q4;have a5:ab H _:=S1.trans (S2.trans (S3.trans (S4.trans S5)));generalize upd (upd H3 C (.tup [.ref D,.ref st,v])) a (.lst [.ref C])=H5 at a5 l5 f5 s5 w5 q5 ⊢;have bh:∀{G:Hp}{xs ys:List V},G f=some (.lst xs)->G a=some (.lst ys)->gg G (fj G f a):=fun{G xs ys} e1 e2 b zs q=>by
  rw[qR (fun z=>by rw[z,e1]at q;cases q) (fun z=>by rw[z,e2]at q;cases q)];exact q
 have a6:=bh f5 l5;have cm:oo K J2 (fj H5 f a) C ⟨[],[],T⟩:=⟨D,st,v,a6 _ _ q5,a6 _ _ w5,⟨[],by rw[qR ch cl];exact s5,.nil⟩,cV.kt (fun b xs q=>a6 _ _ (ab.kt a5 _ _ q)) _ _ hv⟩;refine⟨fun m σ G=>∃(s A:Ze) (F W:List En) (x3 x4 x5 N:Option V),σ=[some v,some (.ref f),some (.ref a),x3,x4,x5,N]/\G f=some (.lst (s.map V.ref))/\G a=some (.lst (A.map V.ref))/\Paired (oo K J2 (fj G f a)) s F/\Paired (oo K J2 (fj G f a)) A W/\F++W.reverse.flatMap (r_ J2)=ki J2 [] [] T/\m=(W.reverse.flatMap (r_ J2)).length/\(∀e∈W,e.tr.wf J0 J2/\e.story.length<=e.way.length)/\(∀e∈F,e.tr.wf J0 J2)/\ab H G,
  ⟨_,[],[C],[],[⟨[],[],T⟩],_,_,_,_,rfl,f5,l5,.nil,.cons cm .nil,by show _++List.flatMap _ [_]=_;rw[List.nil_append,List.flatMap_singleton];rfl,rfl,fun e he=>?_,fun e he=>(by cases he),a5⟩,?_⟩
 ·rw[eE.1 he];exact⟨wf,aB _⟩
 rintro m σ G ⟨s,A,F,W,x3,x4,x5,N,rfl,gf,gw,hF,hW,eq,em,oW,oF,SG⟩;have lw:=Paired.length hW;have lf:=Paired.length hF;refine⟨_,rfl,.inl ⟨a,_,rfl,.inl (ay.of gw),_,_,rfl,rfl,_,rfl,?_⟩⟩;rw[ah];rcases List.eq_nil_or_concat W with e0|⟨B,e,e1⟩
 ·rw[e0]at lw;rw[zzr0 (by show ¬(0:Int)<(A.length:Nat);rw[lw];decide)];refine bt ⟨_,rfl,?_⟩;rw[e0]at eq;have eq:F++[]=_:=eq;rw[eZ]at eq;rw[eq]at hF oF;exact k f s G gf (EnAts.same nH hF) oF SG
 rw[List.concat_eq_append]at e1;subst e1;rw[zzr1 (by show(0:Int)<(A.length:Nat);rw[lw,aO];show(0:Int)<((B.length+1:Nat));omega)];refine bG ?_;obtain⟨q,hq,ea⟩:=Paired.get (i:=B.length) (y:=e) hW (by rw[u5 (aB _),Nat.sub_self];rfl);have co:A.length=B.length+1:=by rw[lw,aO];rfl
 have bi:A=A.take B.length++[q]:=by rw[<-take_snoc hq,<-co,bb]
 have U:Paired (oo K J2 (fj G f a)) (A.take B.length) B:=by
  have:=Paired.takeP B.length hW;rw[List.take_left' rfl]at this;exact this
 generalize A.take B.length=j at bi U;subst bi;obtain⟨oe,se⟩:=oW e (dP _ (eE.2 rfl));obtain⟨t,u,v1,a1,a2,a3,a4⟩:=id ea;have a7:(B++[e]).reverse.flatMap (r_ J2)=e::((sn J2 e)++B.reverse).flatMap (r_ J2):=by
  rw[List.reverse_append];show List.flatMap _ (e::B.reverse)=_;rw[List.flatMap_cons,xE,List.flatMap_append];rfl
 rw[a7]at eq em;have cp:e∈ki J2 [] [] T:=by rw[<-eq];exact dP _ dQ
 have we:=zw e cp;have dd:F.length+1+((sn J2 e).length+B.length)<=1000:=by
  have h1:(F++e::((sn J2 e)++B.reverse).flatMap (r_ J2)).length<=1000:=by rw[eq];exact zp
  have h2:=Cg (J2:=J2) ((sn J2 e)++B.reverse);rw[aO,iN]at h2;rw[aO,gC]at h1;omega
 refine⟨fun σ' w=>∃(s A:Ze) (F W:List En) (x3 x4 x5 N:Option V),σ'=[some v,some (.ref f),some (.ref a),x3,x4,x5,N]/\w f=some (.lst (s.map V.ref))/\w a=some (.lst (A.map V.ref))/\Paired (oo K J2 (fj w f a)) s F/\Paired (oo K J2 (fj w f a)) A W/\F++W.reverse.flatMap (r_ J2)=ki J2 [] [] T/\(W.reverse.flatMap (r_ J2)).length<m/\(∀e∈W,e.tr.wf J0 J2/\e.story.length<=e.way.length)/\(∀e∈F,e.tr.wf J0 J2)/\ab H w,?_,?_⟩
 ·rintro σ' w ⟨s,A,F,W,x3,x4,x5,N,rfl,b1,b2,b3,b4,b5,b6,b7,b8,b9⟩;exact⟨_,b6,s,A,F,W,x3,x4,x5,N,rfl,b1,b2,b3,b4,b5,rfl,b7,b8,b9⟩
 refine⟨_,rfl,.inl ⟨rfl,_,ay.of gw⟩,a,_,.ref q,rfl,rfl,gw,?_,?_⟩
 ·rw[ax,aO,u5 (by show _<=_+1-1;omega)];show[V.ref q][_+1-1-_]?=_;rw[Nat.add_sub_cancel,Nat.sub_self];rfl
 have cs:((j++[q]).map V.ref).dropLast=j.map V.ref:=by
  rw[ax];exact List.dropLast_concat
 rw[cs];have bl:f≠a:=O;have a8:upd G a (.lst (j.map V.ref)) a=some (.lst (j.map V.ref)):=aa;have Y:upd G a (.lst (j.map V.ref)) f=some (.lst (s.map V.ref)):=by rw[ai O];exact gf
 have J1:fj (upd G a (.lst (j.map V.ref))) f a=fj G f a:=xS;have bn:ab H (upd G a (.lst (j.map V.ref))):=fun b o q=>by rw[ai (ae q bf)];exact SG _ _ q
 generalize upd G a (.lst (j.map V.ref))=G1 at a8 Y J1 bn ⊢;rw[<-J1]at hF U ea a1 a2 a3 a4;have b1:=nH _ _ a1;refine⟨q,_,rfl,bT.of b1,rfl,_,_,rfl,_,_,rfl,_,_,rfl,rfl,?_⟩;refine⟨_,rfl,.inl ⟨rfl,_,ay.of Y⟩,_,rfl,_,rfl,_,rfl,(by show 3<=aj;decide),fun p hp=>?_⟩;have L:ab G1 (upd G1 p (.tup [.ref t,.ref u,v1])):=ab.new hp;have p2:upd G1 p (.tup [.ref t,.ref u,v1]) p=some (.tup [.ref t,.ref u,v1]):=aa;have ct:p≠f:=(ae Y hp).symm;have cv:p≠a:=(ae a8 hp).symm;generalize upd G1 p (.tup [.ref t,.ref u,v1])=G2 at L p2 ⊢;have c0:=L _ _ Y;have c1:=L _ _ a8;refine⟨f,_,_,rfl,rfl,c0,by rw[ah,lf];exact ar (by omega),?_⟩;have al:upd G2 f (.lst (s.map V.ref++[.ref p])) f=some (.lst ((s++[p]).map V.ref)):=by rw[aa,ax];rfl
 have an:upd G2 f (.lst (s.map V.ref++[.ref p])) a=some (.lst (j.map V.ref)):=by rw[ai O.symm];exact c1
 have J3:fj (upd G2 f (.lst (s.map V.ref++[.ref p]))) f a=fj G2 f a:=GC;have bo:ab H (upd G2 f (.lst (s.map V.ref++[.ref p]))):=fun b o q=>by rw[ai (ae q bc)];exact L _ _ (bn _ _ q)
 generalize upd G2 f (.lst (s.map V.ref++[.ref p]))=G3 at al an J3 bo ⊢;have g:ab (fj G1 f a) (fj G3 f a):=by rw[J3];exact EY L
 have ep:oo K J2 (fj G3 f a) p e:=by
  have:=ea.same g;obtain⟨a9,h1,h2⟩:=a3;exact⟨t,u,v1,by rw[J3,qR ct cv];exact p2,g _ _ a2,⟨a9,g _ _ h1,Paired.mapP h2 fun _ _ r=>aS.kt (ab.kt g) r⟩,cV.kt (ab.kt g) _ _ a4⟩
 have c2:=EnAts.same g hF;have c3:=EnAts.same g U;have ap:ab (fj G1 f a) G3:=g.trans nH;have c4:dH K G3 u e.story:=by
  obtain⟨a9,h1,h2⟩:=a3;exact⟨a9,ap _ _ h1,Paired.mapP h2 fun _ _ r=>aS.kt (ab.kt ap) r⟩
 refine⟨_,rfl,_,rfl,_,rfl,t,u,v1,e,J2,rfl,ap _ _ a2,c4,cV.kt (ab.kt ap) _ _ a4,oe.ok,z4,by omega,by omega,fun l qs G4 hl bz hk as=>⟨l,_,rfl,ay.of hl,?_⟩⟩;have bI:=as _ _ al;have bS:=as _ _ an;have di:l≠f:=(ae al bz).symm;have bl:l≠a:=(ae an bz).symm;have M:=hk (fj G4 f a) ⟨fun b o q n1 n2=>by rw[qR (fun z=>by rw[z,al]at n1;cases n1) (fun z=>by rw[z,an]at n1;cases n1)];exact q,bh bI bS⟩;have a0:ab (fj G3 f a) (fj G4 f a):=EY as;have lq:=Paired.length M;have dj:=Paired.length U
 let c5:Nat->L2.St->Hp->Prop:=fun i σ' w=>∃N:Option V,σ'=[some v,some (.ref f),some (.ref a),some (.ref t),some (.ref u),some v1,N]/\w a=some (.lst ((j++qs.reverse.take i).map V.ref))/\(∀b o,G4 b=some o->b≠a->w b=some o)/\fj w f a=fj G4 f a
 refine Fa (xs:=qs.map V.ref) c5
  ⟨_,rfl,by rw[uH,eZ];exact bS,fun _ _ q _=>q,rfl⟩ (fun i σ' w _ zq=>by obtain⟨_,_,_,ex,_⟩:=zq;exact ay.of (ex _ _ hl bl)) ?_ ?_
 ·rintro i x σ' w hx hi ⟨N,rfl,I,aC,J'⟩;rw[ah]at hx hi;obtain⟨y,hy,rfl⟩:=bV hx;have bU:qs.reverse[i]?=some y:=by rw[List.getElem?_reverse hi];exact hy
  refine⟨_,rfl,.inl ⟨rfl,_,ay.of I⟩,_,rfl,a,_,_,rfl,rfl,I,?_,_,rfl,?_,fun b o q n=>?_,?_⟩
  ·rw[ah,aO,aA,iN];exact ar (by omega)
  ·rw[aa,take_snoc bU,<-fS,ax (l₂:=[y])];rfl
  ·rw[ai n];exact aC _ _ q n
  ·rw[xS];exact J'
 ·rintro σ' w ⟨N,rfl,I,aC,J'⟩;rw[ah,<-iN,bb]at I;have cb:=aC _ _ bI O;have c6:ab (fj G1 f a) (fj w f a):=by rw[J'];exact g.trans a0
  have c8:=nH _ _ (c6 _ _ a2);have dc:ab H w:=fun b o q=>aC _ _ (as _ _ (bo _ _ q)) (ae q bf);refine⟨_,rfl,.inl ⟨t,_,rfl,.inr (bT.of c8),rfl,_,rfl,?_⟩⟩;have ew:(Bh e.way).length=e.way.length:=ah _;rw[ew,zzr0 (by intro z;injection z with z;omega)];refine bt ⟨_,rfl,.inl ⟨f,_,rfl,.inl (ay.of cb),_,rfl,.inl ⟨a,_,rfl,.inl (ay.of I),_,_,rfl,rfl,_,_,rfl,rfl,_,rfl,?_⟩⟩⟩;rw[ah,ah,aO,aO,iN];rw[zzr0 (by show ¬(1000:Int)<((s.length+1:Nat):Int)+((j.length+qs.length:Nat):Int);omega)];refine bt ?_;have ba:ab (fj G3 f a) (fj w f a):=by rw[J'];exact a0
  refine⟨s++[p],j++qs.reverse,F++[e],B++(sn J2 e).reverse,_,_,_,_,rfl,cb,I,d_ (EnAts.same ba c2) (ep.same ba),Paired.app (EnAts.same ba c3) (Paired.rev (by rw[J'];exact M)),?_,?_,fun x hx=>?_,fun x hx=>?_,dc⟩
  ·rw[List.reverse_append,List.reverse_reverse,fS];exact eq
  ·rw[List.reverse_append,List.reverse_reverse,em];exact Eh _
  ·rcases bL.1 hx with hx|hx
   ·exact oW x (dz _ hx)
   ·exact⟨KF oe x (List.mem_reverse.1 hx),DD se x (List.mem_reverse.1 hx)⟩
  ·rcases bL.1 hx with hx|hx
   ·exact oF x hx
   ·rw[eE.1 hx];exact oe
theorem qt{K:Za}{H:Hp}:∀a:List Str,DIns K H (a.map fG) (a.map V.str)
 |[]=>rfl
 |w::a=>⟨_,_,rfl,rfl,qt a⟩
theorem kY:∀a:List Str,DT.depths (a.map fG)=0
 |[]=>rfl
 |w::a=>by
  show max 0 (DT.depths (a.map fG))=0;rw[kY a];rfl
inductive kU(K:Za)(C:Addr)(vs:List V)(H:Hp)(Q:VK)(E:XK):Prop
 |mk (M:Addr) (v:V) (ps:List DT) (J0 J2 J4:Zb) (ds:List ao):(vs=[.ref M,v])->(bY C H M J0 J2 J4 ds)->(cV K H (.t (fR eM J2 ps)) v)->(J2.length=ps.length)->(∀H',ab H H'->Q (.bl true) H')->kU K C vs H Q E
theorem Dm{K:Za}{C:Addr}{G:List V}{H:Hp}{Q:VK}{E:XK}(h:kU K C G H Q E):nS K C (m9 C) (bq Q) (start og G) H:=by
 obtain⟨M,v,N,O,a,T,U,rfl,r,⟨b,xs,rfl,I,Y⟩,zl,k⟩:=h;have z4:=r.ok.says4;have J:=gO.of Y;have hl:=Paired.length J;rw[uE]at hl;refine⟨_,rfl,b,rfl,⟨_,aS.sq I⟩,fun l g=>?_⟩
 let t:Nat->List V->Hp->Prop:=fun i j u=>j=(a.take i).map V.str/\ab H u/\u l=some (.lst j)
 refine mP (xs:=xs) t ⟨rfl,ab.new g,aa⟩ (fun i j u _ zq=>by obtain⟨_,S,h'⟩:=zq;exact⟨h',aS.sq (aS.kt (ab.kt S) I)⟩) ?_ ?_
 ·rintro j z ⟨rfl,S,n⟩;have e1:xs.length=a.length:=by omega
  rw[e1,bb]at n;obtain⟨dm,fm,o1,o2,lv,al,g1,a1,a2,_⟩:=ph (r.same S);refine⟨_,rfl,M,dm,fm,rfl,g1,a2,M,O,a,T,U,rfl,r.same S,fun w p=>?_⟩;have L:ab z (upd z w (.lst (a.map V.str))):=ab.new p;refine⟨.s (a.map fG),.s (a.map fG),⟨l,_,rfl,ay.of (L _ _ n),qt a⟩,⟨w,_,rfl,ay.of aa,qt a⟩,?_,?_,?_⟩
  ·show DT.depths _+1<=8;rw[kY];decide
  ·show DT.depths _+1<=8;rw[kY];decide
  ·rw[zzr1 rfl];exact k _ (S.trans L)
 ·rintro i j z x A hi ⟨rfl,S,n⟩;obtain⟨d,hd⟩:∃d,N[i]?=some d:=⟨_,bM (by omega)⟩;obtain⟨w,p⟩:∃w,a[i]?=some w:=⟨_,bM (by omega)⟩;obtain⟨y,q,m⟩:=Paired.getL J A;rw[yu,p,hd]at q;injection q with q;rw[<-q]at m;obtain⟨c,an,rfl,hc,x1,ap,rfl,f,x2,B,rfl,as,D⟩:=m;have D:B=[]:=D;subst D;have f:x1=V.str w:=f;subst f;refine⟨c,_,rfl,aS.sq (aS.kt (ab.kt S) hc),rfl,_,_,rfl,_,_,rfl,rfl,oS ?_⟩;refine⟨_,rfl,n,?_,n5 hi ⟨by rw[take_snoc p,ax];rfl,fun b o e=>?_,aa⟩⟩
  ·rw[ah,aA];exact ar (by omega)
  ·rw[ai (ae e g)];exact S _ _ e
inductive uo(K:Za)(C:Addr)(vs:List V)(H:Hp)(Q:VK)(E:XK):Prop
 |mk (M:Addr) (v:V) (T:Tr) (J0 J2 J4:Zb) (ds:List ao):(vs=[.ref M,v])->(bY C H M J0 J2 J4 ds)->(cV K H (T.dt J2) v)->(T.wf J0 J2)->(∀H',ab H H'->Q (.bl true) H')->uo K C vs H Q E
theorem Kh{K:Za}{C bl en:Addr}(L:∀H,bT K H bl (dw.map V.str))(G:∀H,bT K H en (eQ.map V.str)){I:List V}{H:Hp}{Q:VK}{E:XK}(h:uo K C I H Q E):pX K bl en (kT K 3 "wait") (kU K C) (kT K 4 "tell") C (qq C) (bq Q) (start q_ I) H:=by
 obtain⟨M,v,T,g,f,t,u,rfl,n,e,wf,k⟩:=h;have z4:=n.ok.says4;cases T with
 |bl =>
  refine⟨_,rfl,v,"blame",[],rfl,e,_,rfl,?_⟩;refine bt ⟨_,rfl,v,"blame",[],rfl,e,_,rfl,?_⟩;refine bt ⟨_,rfl,fH dw,fH eQ,cV.dIn _ _ e,bv (G H),by rw[bA];decide,by rw[bA];decide,_,rfl,?_⟩;rw[jM,zzr0 (by decide)];refine bt ⟨_,rfl,fH dw,fH dw,cV.dIn _ _ e,bv (L H),by rw[bA];decide,by rw[bA];decide,?_⟩;rw[zzr1 rfl];exact k H (ab.refl _)
 |en =>
  refine⟨_,rfl,v,"end",[],rfl,e,_,rfl,?_⟩;refine bt ⟨_,rfl,v,"end",[],rfl,e,_,rfl,?_⟩;refine bt ⟨_,rfl,fH eQ,fH eQ,cV.dIn _ _ e,bv (G H),by rw[bA];decide,by rw[bA];decide,_,rfl,?_⟩;rw[zzr1 rfl];exact bG (k H (ab.refl _))
 |nd a x =>
  obtain⟨ok,N,_⟩:=wf;have O:(Tr.dts f x).length=f.length+1:=by rw[Tr.dts_map,ah,ok]
  have e:cV K H (eW f a (Tr.dts f x)) v:=e;generalize Tr.dts f x=i at O e;cases a with
  |some a =>
   obtain⟨U,l⟩:∃d,i[0]?=some d:=⟨_,bM (by omega)⟩;rw[gD l]at e;refine⟨_,rfl,v,"tell",_,rfl,e,_,rfl,?_⟩;obtain⟨b,Y,rfl,q,x0,y,rfl,e0,r,z,rfl,o,x2,p,rfl,e2,J,A,rfl,e3,m⟩:=e;have m:A=[]:=m;subst m;have o:r=V.str a:=o;subst o;refine bG ?_;obtain⟨dm,fm,o1,o2,lv,al,g1,a1,a2,_⟩:=ph n;refine⟨_,rfl,b,_,1,.str a,rfl,rfl,aS.sq q,aN (j:=1) rfl,_,rfl,M,dm,fm,rfl,g1,a1,M,g,f,t,u,rfl,n,fun w hw=>?_⟩;have s:ab H (upd H w (.lst (g.map V.str))):=ab.new hw;refine⟨fG a,g.map fG,w,_,rfl,rfl,.inl (ay.of aa),qt g,cL _,by rw[kY];decide,_,rfl,?_⟩;have ma:fG a∈g.map fG:=lW (N a rfl);have hc:(if false=true then !decide (fG a∈g.map fG)else decide (fG a∈g.map fG))=true:=zzr1 ma
   rw[hc];refine bG ⟨_,rfl,_,rfl,b,_,3,J,rfl,rfl,aS.sq (aS.kt (ab.kt s) q),aN (j:=3) rfl,M,J,i.drop 1,g,f,t,u,rfl,n.same s,cV.kt (ab.kt s) _ _ e3,by rw[eF];omega,fun B D=>k B (s.trans D)⟩
  |none =>
   obtain⟨U,l⟩:∃d,i[f.length]?=some d:=⟨_,bM (by omega)⟩;rw[gE l]at e;refine⟨_,rfl,v,"wait",_,rfl,e,_,rfl,?_⟩;refine bt ⟨_,rfl,v,"wait",_,rfl,e,_,rfl,?_⟩;obtain⟨b,Y,rfl,q,x0,y,rfl,e0,r,z,rfl,o,x2,p,rfl,e2,m⟩:=e;have m:p=[]:=m;subst m;exact bG ⟨_,rfl,_,rfl,b,_,1,r,rfl,rfl,aS.sq q,aN (j:=1) rfl,M,r,i.take f.length,g,f,t,u,rfl,n,o,by rw[aA];omega,fun B D=>k B D⟩
inductive kW(K:Za)(C:Addr)(vs:List V)(H:Hp)(Q:VK)(E:XK):Prop
 |mk (M:Addr) (v:V) (T:Tr) (J0 J2 J4:Zb) (ds:List ao):(vs=[.ref M,v])->(bY C H M J0 J2 J4 ds)->(cV K H (T.dt J2) v)->(T.wf J0 J2)->((ki J2 [] [] T).length<=1000)->(∀e∈ki J2 [] [] T,e.way.length<8) ->
  (∀(l:Addr) (qs:Ze) (H':Hp),H' l=some (.lst (qs.map V.ref))->Paired (oo K J2 H') qs (ki J2 [] [] T)->ab H H'->Q (.ref l) H')->kW K C vs H Q E
theorem Dn{K:Za}{C:Addr}{s:List V}{H:Hp}{Q:VK}{E:XK}(h:kW K C s H Q E):nT K (uo K C) (jG K) (bq Q) (start oh s) H:=by
 obtain⟨M,v,T,t,u,D,G,rfl,w,I,wf,J,L,k⟩:=h;have N:=w.ok.says4;refine⟨_,rfl,v,T,t,u,rfl,I,wf,N,J,L,fun l qs O f y g z=>?_⟩;refine⟨_,rfl,l,rfl,⟨_,ay.of f⟩,?_⟩
 let j:Nat->L2.St->Hp->Prop:=fun i σ A=>Mi fun(m n o:Option V)=>σ=[some (.ref M),some v,some (.ref l),m,n,o]/\ab O A
 refine cN (xs:=qs.map V.ref) j ⟨_,_,_,rfl,ab.refl _⟩ (fun i σ A _ U=>by obtain⟨_,_,_,_,S⟩:=U;exact ay.of (S _ _ f)) ?_ ?_
 ·rintro i x σ B Y ⟨m,n,o,rfl,a⟩;obtain⟨q,p,rfl⟩:=bV Y;obtain⟨e,he,r⟩:=Paired.getL y p;obtain⟨wr,st,v1,a1,a2,a3,a4⟩:=r.same a;refine⟨q,_,rfl,bT.of a1,rfl,_,_,rfl,_,_,rfl,_,_,rfl,rfl,?_⟩;refine⟨_,rfl,_,rfl,M,v1,e.tr,t,u,D,G,rfl,w.same (z.trans a),a4,g e (bQ he),fun H3 S3=>⟨_,rfl,?_⟩⟩;exact bt ⟨_,_,_,rfl,a.trans S3⟩
 ·rintro σ B ⟨m,n,o,rfl,a⟩;exact⟨_,rfl,k l qs B (a _ _ f) (EnAts.same a y) (z.trans a)⟩
inductive ng(K:Za)(C:Addr)(vs:List V)(H:Hp)(Q:VK)(E:XK):Prop
 |mk (M:Addr) (v:V) (T:Tr) (J0 J2 J4:Zb) (ds:List ao):(vs=[.ref M,v])->(bY C H M J0 J2 J4 ds)->(cV K H (T.dt J2) v)->(T.wf J0 J2)->((ki J2 [] [] T).length<=1000)->(∀e∈ki J2 [] [] T,e.way.length<8)->(∀H',ab H H'->Q .non H')->ng K C vs H Q E
theorem FU{K:Za}{C:Addr}{a:List V}{H:Hp}{Q:VK}{E:XK}(h:ng K C a H Q E):ze K (kW K C) (bq Q) (start AO a) H:=by
 obtain⟨M,v,T,e,f,g,i,rfl,j,m,wf,n,o,k⟩:=h;exact⟨_,rfl,_,rfl,M,v,T,e,f,g,i,rfl,j,m,wf,n,o,fun l qs p _ _ S=>k p S⟩
open Builtin.Int (intBits)
def fE(c:Option Str->Int):List (Option Str)->Option Str->Int->Option Int
 |[],_,_=>none
 |b::r,a,acc=>if b=a then some acc else fE c r a (acc+c b)
def db(c:Sg->Int)(f:Sg->Tr->Option Int):List (Sg×Tr)->Int->Option Int
 |[],acc=>some acc
 |x::r,acc=>match f x.1 x.2 with
  |none=>none
  |some own=>db c f r (acc * c x.1+own)
def numM(J0 J2 J4:Zb)(ds:List ao):Nat->List Str->Tr->Option Int
 |_,face,.bl=>if face=[]then some 0 else none
 |_,face,.en=>if face=[]then none else some 0
 |0,_,.nd _ _=>none
 |d+1,face,.nd a ps=>if face=[]then none else
  match fE (prodA J0 J2 J4 ds d face) ((askedF J0 J4 ds face).map some++[none]) a 1 with
  |none=>none
  |some s=>(db (fun sg=>cntM J0 J2 J4 ds d (behF J4 ds face sg)) (fun sg p=>numM J0 J2 J4 ds d (behF J4 ds face sg) p) ((aP J2 a).zip ps) 0).map (s+·)
theorem tF{c:Option Str->Int}(g:∀a,0<c a):∀{A:List (Option Str)}{a:Option Str}{f s:Int},fE c A a f=some s->f<=s/\s+c a<=f+(A.map c).sum
 |[],_,_,_,h=>by cases h
 |b::r,a,f,s,h=>by
  have i:∀r:List (Option Str),0<=(r.map c).sum:=fun r=>pd _ fun x j=>by
   obtain⟨y,_,rfl⟩:=aV.1 j;exact uF (g y)
  unfold fE at h;rw[bF,oG];split at h
  ·next e =>
   injection h with h;have:=i r;rw[<-h,e];omega
  ·have:=tF g h;have:=g b;omega
theorem xV{α:Type}(c:α->Int)(l:List α):l.foldl (fun b x=>b * c x) 1=f8 (l.map c):=by unfold f8;rw[List.foldl_map]
theorem u7{α β:Type}:∀{a:List α}{b:List β},a.length=b.length->(a.zip b).map (·.1)=a
 |[],_,_=>rfl
 |x::a,[],h=>by cases h
 |x::a,y::b,h=>by
  show x::(a.zip b).map (·.1)=_;rw[u7 (Nat.succ.inj h)]
theorem sh(k j g:Zb)(i:List ao):∀(d:Nat) (f:Zb) (T:Tr) (m:Int),numM k j g i d f T=some m->T.wf k j->0<=m/\m<cntM k j g i d f
 |d,f,.bl,m,h,_=>by
  unfold numM at h;split at h
  ·injection h with h;have:=le k j g i d f;omega
  ·cases h
 |d,f,.en,m,h,_=>by
  unfold numM at h;split at h
  ·cases h
  ·injection h with h;have:=le k j g i d f;omega
 |0,_,.nd _ _,m,h,_=>by
  unfold numM at h;cases h
 |d+1,f,.nd a B,m,h,w=>by
  obtain⟨C,_,o⟩:=w;have o:=Tr.wfs_mem.1 o;unfold numM at h;split at h
  ·cases h
  next ne =>
  split at h
  ·cases h
  next s D =>
  obtain⟨n,E,rfl⟩:=kH.1 h;have q:=tF (xD k j g i d f) D;rw[AC ne];have t:∀{L:List (Sg×Tr)}{acc P r:Int},(∀x∈L,x.2.wf k j)->0<=acc->acc<P->db (fun l=>cntM k j g i d (behF g i f l)) (fun l p=>numM k j g i d (behF g i f l) p) L acc=some r->0<=r/\r<(L.map (·.1)).foldl (fun b l=>b * cntM k j g i d (behF g i f l)) P:=by
   intro L
   induction L with
   |nil =>
    intro acc P r _ u q h;injection h with h;rw[<-h];exact⟨u,q⟩
   |cons x L G =>
    intro acc P r A u q h;unfold db at h;split at h
    ·cases h
    next v e =>
    obtain⟨J,M⟩:=sh k j g i d _ _ _ e (A x dQ);rw[bF,List.foldl_cons];refine G (acc:=acc * cntM k j g i d (behF g i f x.1)+v) (fun y H=>A y (dY _ H)) ?_ ?_ h
    ·have:=Int.mul_nonneg u (show 0<=cntM k j g i d (behF g i f x.1) by omega);omega
    ·have z:(acc+1) * cntM k j g i d (behF g i f x.1)<=P * cntM k j g i d (behF g i f x.1):=Int.mul_le_mul_of_nonneg_right (by omega) (by omega);rw[Int.add_mul,Int.one_mul]at z;omega
  have z:=t (fun x I=>o x.2 (y3 I).2) (rg 0) (show(0:Int)<1 by decide) E;rw[u7 (a:=aP j a) (b:=B) (by rw[cq,C]),xV]at z;have N:prodA k j g i d f a=f8 ((aP j a).map fun l=>cntM k j g i d (behF g i f l)):=rfl;omega
theorem ye{a b:Int}{n:Nat}(e:0<=a)(f:a<=b)(h:intBits b<=n):intBits a<=n:=by
 rw[intBits_le_iff]at h ⊢;omega
open Builtin.Int (intBits)
def vI:Option Int->V
 |none=>.non
 |some i=>.int i
theorem iI:∀{l:List Tr}{t:Tr},t∈l->t.hgt<=Tr.hgts l
 |x::l,t,h=>by
  show t.hgt<=max x.hgt (Tr.hgts l);rcases cn.1 h with rfl|h
  ·omega
  ·have:=iI h;omega
theorem vV(e:Zb):∀(h:Nat) (T:Tr),T.hgt<=h->(T.dt e).depth<=dB h
 |h,.bl,_=>by show(fH dw).depth<=_;rw[bA];exact DN h
 |h,.en,_=>by show(fH eQ).depth<=_;rw[bA];exact DN h
 |0,.nd a f,g=>absurd g (by show ¬Tr.hgts f+1<=0;omega)
 |h+1,.nd a f,g=>by
  have g:Tr.hgts f+1<=h+1:=g;show(eW e a (Tr.dts e f)).depth<=dB h+3;refine Bj (DN h) fun p i=>?_;rw[Tr.dts_map]at i;obtain⟨t,j,rfl⟩:=aV.1 i;have:=iI j;exact vV e h t (by omega)
theorem Gf{f J2:Zb}{a:Option Str}(h:∀w,a=some w->w∈f):∀e∈aP J2 a,e∈bW f J2:=by
 unfold bW;intro e hs;cases a with
 |none =>
  rcases bL.1 (show e∈J2.map cO++[bX]from hs)with hs|hs
  ·exact dz _ (dP _ hs)
  ·exact dP _ hs
 |some w =>
  rcases cn.1 (show e∈dW w::J2.map cO from hs)with rfl|hs
  ·exact dz _ (dz _ (lW (h w rfl)))
  ·exact dz _ (dP _ hs)
theorem Gg{e:Zb}{a b:Option Str}(h:aP e a=aP e b):a=b:=by
 have f:∀w:Str,aP e none≠aP e (some w):=fun w z=>by
  have z:e.map cO++[bX]=dW w::e.map cO:=z;cases e with
  |nil =>
   injection z with z _;have z:([("hush":Str)]:Zb)=[("ask":Str),w]:=z;injection z with _ z;cases z
  |cons s r =>
   injection z with z _;have z:([("say":Str),s]:Zb)=[("ask":Str),w]:=z;injection z with z _;exact absurd z (by decide)
 cases a with
 |none=>cases b with
  |none=>rfl
  |some w=>exact absurd h (f w)
 |some v=>cases b with
  |none=>exact absurd h.symm (f v)
  |some w =>
   have h:dW v::e.map cO=dW w::e.map cO:=h;injection h with h _;have h:([("ask":Str),v]:Zb)=[("ask":Str),w]:=h;injection h with _ h;injection h with h _;rw[h]
theorem IT:∀{a b:List Sg},a.map fH=b.map fH->a=b
 |[],[],_=>rfl
 |[],_::_,h=>by cases h
 |_::_,[],h=>by cases h
 |x::a,y::b,h=>by
  injection h with e f;rw[qU e,IT f]
theorem KL(a b:List Sg):decide (DT.s (a.map fH)=DT.s (b.map fH))=decide (a=b):=decide_eq_decide.2 ⟨fun z=>IT (by injection z),fun z=>by rw[z]⟩
theorem Cc(L:List Sg):(DT.s (L.map fH)).depth<=14:=by
 show DT.depths _+1<=14;have:=DK L;omega
inductive pf(K:Za)(Cm Ck Cd:Addr)(D:Nat)(vs:List V)(H:Hp)(Q:VK)(E:XK):Prop
 |mk (H0:Hp) (x sl y M kd cd:Addr) (us:Ze) (v tv:V) (T:Tr) (kv cv:List (TK×V)) (n d:Nat) (face J0 J2 J4:Zb) (ds:List ao):(vs=[.ref x,v,.int (d:Nat),tv])->(d<=D)->(xf Cm Ck Cd H0 x sl y M kd cd us J0 J2 J4 ds)->(dI H0 H kd cd kv cv J0 J2 J4 ds n)->(Ft H v face)->(v≠.non->face≠[])->(∀r∈face,r∈J4)->(face.length<=1000)->(cV K H (T.dt J2) tv)->(T.wf J0 J2)->(T.hgt<=6)->(n+pc d<=1000000) ->
  (∀(kv' cv':List (TK×V)) (H':Hp),dI H0 H' kd cd kv' cv' J0 J2 J4 ds (n+pc d)->Kp H H'->Gr kv kv'->Q (vI (numM J0 J2 J4 ds d face T)) H')->pf K Cm Ck Cd D vs H Q E
inductive mB(K:Za)(Cm Ck Cd:Addr)(D:Nat)(vs:List V)(H:Hp)(Q:VK)(E:XK):Prop
 |mk (H0:Hp) (x sl y M kd cd u:Addr) (us:Ze) (tv:V) (a:Option Str) (ps:List Tr) (kv cv:List (TK×V)) (n d:Nat) (face J0 J2 J4:Zb) (ds:List ao):(vs=[.ref x,.ref u,.int ((d+1:Nat)),tv])->(d<=D)->(d<=4)->(xf Cm Ck Cd H0 x sl y M kd cd us J0 J2 J4 ds)->(dI H0 H kd cd kv cv J0 J2 J4 ds n)->(H u=some (.tup (face.map V.str)))->(∀r∈face,r∈J4)->(face.length<=1000)->(cV K H ((Tr.nd a ps).dt J2) tv)->((Tr.nd a ps).wf J0 J2)->((Tr.nd a ps).hgt<=6)->(n+1+5 * (nB d+pc d)<=1000000) ->
  (∀(kv' cv':List (TK×V)) (H':Hp),dI H0 H' kd cd kv' cv' J0 J2 J4 ds (n+1+5 * (nB d+pc d))->Kp H H'->Gr kv kv'->Q (vI (db (fun sg=>cntM J0 J2 J4 ds d (behF J4 ds face sg)) (fun sg p=>numM J0 J2 J4 ds d (behF J4 ds face sg) p) ((aP J2 a).zip ps) 0)) H')->mB K Cm Ck Cd D vs H Q E
theorem HJ{K:Za}{Cm Ck Cd:Addr}{D:Nat}{vs:List V}{H:Hp}{Q:VK}{E:XK}(h:mB K Cm Ck Cd D vs H Q E):lL K (i9 K) Cd (gS Cm Ck Cd 4) (pf K Cm Ck Cd D) (ib Cm Ck Cd) (bq Q) (start lQ vs) H:=by
 obtain⟨H0,x,sl,y,M,kd,cd,u,us,tv,a,r,kv,cv,n,d,f,J0,J2,J4,ds,rfl,hD,d4,St,Dy,hu,t,hz,bl,wf,hg,hn,k⟩:=h;obtain⟨dx,fs,g0,l1,l2,l3,l4⟩:=St.ob;have mo:=St.ks.mach.ok;have z1:=mo.asks4;have z2:=mo.says4;have z3:=mo.rooms26;obtain⟨w1,w2,w3⟩:=id wf;have w3:=Tr.wfs_mem.1 w3;have ch:Tr.hgts r+1<=6:=hg;refine⟨_,rfl,x,dx,fs,rfl,Dy.ks.same _ _ g0,l4 "steps_from" (by decide +kernel) (by decide +kernel) (by decide +kernel),_,rfl,H0,x,sl,y,M,kd,cd,u,us,kv,cv,n,f,J0,J2,J4,ds,rfl,St,Dy,hu,t,hz,by omega,fun sd as cl H1 D1 v1 _ _ bn aC=>?_⟩;have a0:Kp H H1:=Kp.exB Dy.ks.hkd rfl bn;refine⟨_,rfl,tv,.nd a r,J2,rfl,cV.kt a0.kt _ _ bl,w1,z2,fun ql qs H2 a4 v S2=>⟨ql,rfl,⟨_,ay.of a4⟩,?_⟩⟩;have v:lK K H2 qs ((aP J2 a).zip (Tr.dts J2 r)):=v;have D2:=D1.up S2;have a5:=a0.trans (ab.kp S2);have zz:(aP J2 a).length=r.length:=by rw[cq,w1]
 have zL:((aP J2 a).zip r).length=r.length:=by rw[kG];omega
 have zq:qs.length=r.length:=by rw[Paired.length v,kG,Tr.dts_map,ah];omega
 generalize hL:(aP J2 a).zip r=L at k zL
 let bz:Nat->L2.St->Hp->Prop:=fun i σ H'=>NE6 fun(a6 bI:List (TK×V)) (g:Int) (x6 x7 x8:Option V)=>MO (σ=[some (.ref x),some (.ref u),some (.int ((d+1:Nat))),some tv,some (.ref sd),some (.int g),x6,x7,x8]) (db (fun sg=>cntM J0 J2 J4 ds d (behF J4 ds f sg)) (fun sg p=>numM J0 J2 J4 ds d (behF J4 ds f sg) p) L 0=db (fun sg=>cntM J0 J2 J4 ds d (behF J4 ds f sg)) (fun sg p=>numM J0 J2 J4 ds d (behF J4 ds f sg) p) (L.drop i) g) (intBits g<=i * (bB d+1)) (Kp H2 H') (dI H0 H' kd cd a6 bI J0 J2 J4 ds (n+1+i * (nB d+pc d))) (Gr as a6)
 refine cN (xs:=qs.map V.ref) bz
  ⟨as,cv,0,_,_,_,rfl,rfl,(by rw[Nat.zero_mul];decide),fun _ _ e _=>e,D2.more (fo _ _),.refl _⟩ (fun i σ H' _ zq=>by obtain⟨_,_,_,_,_,_,_,_,_,bS,_,_⟩:=zq;exact ay.of (bS _ _ a4 rfl)) ?_ ?_
 ·rintro i w σ H3 hw ⟨T,U,g,x6,x7,x8,rfl,eh,ba,l,D3,m⟩;obtain⟨q,hq,rfl⟩:=bV hw;have il:i<r.length:=by rw[<-zq];exact(cj.1 hq).1
  obtain⟨p,hp⟩:∃p,r[i]?=some p:=⟨_,bM il⟩;obtain⟨sg,Y⟩:∃sg,(aP J2 a)[i]?=some sg:=⟨_,bM (by omega)⟩;have bU:L[i]?=some (sg,p):=by rw[<-hL];exact yt.2 ⟨Y,hp⟩
  have ed:L.drop i=(sg,p)::L.drop (i+1):=by
   obtain⟨h1,h2⟩:=cj.1 bU;rw[l6 h1,h2]
  rw[ed]at eh;obtain⟨y',A,s,pv,o,j,G⟩:=Paired.getL v hq;have b1:((aP J2 a).zip (Tr.dts J2 r))[i]?=some (sg,p.dt J2):=yt.2 ⟨Y,by rw[Tr.dts_map,cC,hp];rfl⟩;rw[b1]at A;injection A with A;rw[<-A]at j G;have I:aS K H3 s (sg.map V.str):=aS.kt l.kt j;have b2:cV K H3 (p.dt J2) pv:=cV.kt l.kt _ _ G;have B:=Gf w2 sg (bQ Y);have wp:=w3 p (bQ hp);have b3:p.hgt<=6:=by have:=iI (bQ hp);omega
  have cm:(i+1) * (nB d+pc d)=i * (nB d+pc d)+(nB d+pc d):=fk _ _;have ce:(i+1) * (nB d+pc d)<=5 * (nB d+pc d):=c7 _ (by omega);have a7:(((d+1:Nat):Int)-1)=(d:Nat):=by omega
  refine⟨q,_,rfl,bT.of (l _ _ o rfl),rfl,_,_,rfl,_,_,rfl,rfl,?_⟩;obtain⟨f',b5,J,e',_,_,r3,a8⟩:=D3.ks.kok _ (fw (m _ _ v1));injection e' with al an;cases fL al;cases an;have gd:lS K H3 sd (.ref s) (bu J (fX sg)):=.inr ⟨_,fX sg,s,r3,rfl,pW I,eg _,rfl⟩;refine⟨_,rfl,x,dx,fs,rfl,D3.ks.same _ _ g0,l4 "number_at" (by decide +kernel) (by decide +kernel) (by decide +kernel),_,rfl,sd,rfl,.inr ⟨_,r3⟩,_,rfl,_,gd,_,rfl,_,_,rfl,rfl,_,rfl,H0,x,sl,y,M,kd,cd,us,(bu J (fX sg)).getD .non,pv,p,T,U,_,d,behF J4 ds f sg,J0,J2,J4,ds,?_,hD,St,D3,?_,?_,mQ t,jx (by omega) hz,b2,wp,b3,by omega,fun a9 bd H4 D4 bf ap=>?_⟩
  ·show[V.ref x,_,V.int (((d+1:Nat):Int)-1),_]=_;rw[a7]
  ·rcases a8.look B with⟨o,j⟩|⟨o,u2,j,G⟩
   ·rw[o,j];exact .inl ⟨rfl,rfl⟩
   ·rw[j];exact .inr ⟨u2,rfl,G⟩
  ·rcases a8.look B with⟨o,j⟩|⟨o,u2,j,G⟩
   ·rw[j];exact fun z=>absurd rfl z
   ·exact fun _=>o
  have N:=l.trans bf;refine⟨_,rfl,_,rfl,?_⟩;cases en:numM J0 J2 J4 ds d (behF J4 ds f sg) p with
  |none =>
   have er:db (fun sg=>cntM J0 J2 J4 ds d (behF J4 ds f sg)) (fun sg p=>numM J0 J2 J4 ds d (behF J4 ds f sg) p) ((sg,p)::L.drop (i+1)) g=none:=by
    rw[db];show(match numM J0 J2 J4 ds d (behF J4 ds f sg) p with|none=>none|some C=>_)=none
    rw[en]
   refine bG ?_;have:=k a9 bd H4 (D4.more (by omega)) (a5.trans N) (aC.trans (m.trans ap));rw[eh,er]at this;exact this
  |some C =>
   have er:db (fun sg=>cntM J0 J2 J4 ds d (behF J4 ds f sg)) (fun sg p=>numM J0 J2 J4 ds d (behF J4 ds f sg) p) ((sg,p)::L.drop (i+1)) g=db (fun sg=>cntM J0 J2 J4 ds d (behF J4 ds f sg)) (fun sg p=>numM J0 J2 J4 ds d (behF J4 ds f sg) p) (L.drop (i+1)) (g * cntM J0 J2 J4 ds d (behF J4 ds f sg)+C):=by
    rw[db];show(match numM J0 J2 J4 ds d (behF J4 ds f sg) p with|none=>none|some C=>_)=_
    rw[en]
   obtain⟨o0,o1⟩:=sh J0 J2 J4 ds d _ p C en wp;have bc:=jw (J0:=J0) (J2:=J2) (J4:=J4) (ds:=ds) z1 z2 d (behF J4 ds f sg);have bo:=ye o0 (uF o1) bc;have b4:=yk d d4;refine bt ?_;obtain⟨f',b5,O,e',_,_,r5,bh⟩:=D4.ks.kok _ (fw ((m.trans ap) _ _ v1));injection e' with al an;cases fL al;cases an;have b6:lS K H4 sd (.ref s) (bu O (fX sg)):=.inr ⟨_,fX sg,s,r5,rfl,pW (aS.kt bf.kt I),eg _,rfl⟩;refine⟨_,rfl,_,rfl,x,dx,fs,rfl,D4.ks.same _ _ g0,l4 "count_at" (by decide +kernel) (by decide +kernel) (by decide +kernel),_,rfl,sd,rfl,.inr ⟨_,r5⟩,_,rfl,_,b6,_,rfl,_,_,rfl,rfl,H0,x,sl,y,M,kd,cd,us,(bu O (fX sg)).getD .non,a9,bd,_,d,behF J4 ds f sg,J0,J2,J4,ds,?_,d4,St,D4,?_,?_,mQ t,jx (by omega) hz,by omega,fun b7 b8 H6 D6 b9 cb=>?_⟩
   ·show[V.ref x,_,V.int (((d+1:Nat):Int)-1)]=_;rw[a7]
   ·rcases bh.look B with⟨o,j⟩|⟨o,u2,j,G⟩
    ·rw[o,j];exact .inl ⟨rfl,rfl⟩
    ·rw[j];exact .inr ⟨u2,rfl,G⟩
   ·rcases bh.look B with⟨o,j⟩|⟨o,u2,j,G⟩
    ·rw[j];exact fun z=>absurd rfl z
    ·exact fun _=>o
   have i4:i<=4:=by omega
   have bi:i * (bB d+1)<=4 * (bB d+1):=c7 _ i4;refine⟨_,_,rfl,rfl,yB ba bc (by omega),_,rfl,_,_,rfl,rfl,b7,b8,_,_,_,_,rfl,by rw[eh,er],?_,N.trans b9,D6.more (by omega),m.trans (ap.trans cb)⟩;have h1:=uG (yC ba bc) bo;rw[fk];omega
 ·rintro σ H3 ⟨T,U,g,x6,x7,x8,rfl,eh,ba,l,D3,m⟩;rw[ah,zq,<-zL,oH]at eh;rw[ah,zq]at D3;have m5:r.length * (nB d+pc d)<=5 * (nB d+pc d):=c7 _ (by omega);have:=k T U H3 (D3.more (by omega)) (a5.trans l) (aC.trans m);rw[eh]at this;exact⟨_,rfl,this⟩
open Classical in
def aheadB(J2:Zb)(c:Option Str->Int)(sgs:List Sg):List (Option Str)->Int->Option Int
 |[],_=>none
 |b::r,acc=>if aP J2 b=sgs then some acc else aheadB J2 c sgs r (acc+c b)
theorem Cw{f:Zb}{c:Option Str->Int}{a:Option Str}:∀(A:List (Option Str)) (e:Int),aheadB f c (aP f a) A e=fE c A a e
 |[],_=>rfl
 |b::r,e=>by
  unfold aheadB fE;by_cases h:b=a
  ·rw[if_pos (by rw[h]),if_pos h]
  ·rw[if_neg (fun z=>h (Gg z)),if_neg h,Cw r]
theorem wd{e:Zb}{c:Option Str->Int}:∀(A:List (Option Str)) (a:Int),aheadB e c [] A a=none
 |[],_=>rfl
 |b::r,a=>by
  unfold aheadB;rw[if_neg (fun z=>by have:=cq e b;rw[z]at this;cases this),wd r]
def zX(J2:Zb):Tr->List Sg
 |.nd a _=>aP J2 a
 |_=>[]
theorem JY{J2:Zb}{T:Tr}(h:T.ok J2):(K_ J2 T).map (·.1)=zX J2 T:=by
 cases T with
 |bl=>rfl
 |en=>rfl
 |nd a e =>
  have h:e.length=J2.length+1:=h;exact u7 (by rw[cq,Tr.dts_map,ah,h])
def hornT(J0 J2 J4:Zb)(ds:List ao)(d:Nat)(face:Zb):Tr->Option Int
 |.nd a ps=>db (fun sg=>cntM J0 J2 J4 ds d (behF J4 ds face sg)) (fun sg p=>numM J0 J2 J4 ds d (behF J4 ds face sg) p) ((aP J2 a).zip ps) 0
 |_=>none
theorem Ir{g f h e:Zb}{i:List ao}{d:Nat}{T:Tr}(j:e≠[])(k:T≠.en):numM g f h i (d+1) e T=match aheadB f (prodA g f h i d e) (zX f T) ((askedF g h i e).map some++[none]) 1 with
  |none=>none
  |some s=>(hornT g f h i d e T).map (s+·):=by
 cases T with
 |bl =>
  show numM g f h i (d+1) e .bl=match aheadB f _ [] _ 1 with|none=>none|some s=>_
  rw[wd];unfold numM;rw[if_neg j]
 |en=>exact absurd rfl k
 |nd a l =>
  show numM g f h i (d+1) e (.nd a l)=match aheadB f _ (aP f a) _ 1 with|none=>none|some s=>_
  rw[Cw];unfold numM;rw[if_neg j];rfl
theorem Ci{e:Zb}{T:Tr}(h:T.dt e=fH dw):T=.bl:=by
 cases T with
 |bl=>rfl
 |en=>exact absurd (qU h) (by decide)
 |nd a f =>
  cases a with
  |none=>injection h with h;cases h
  |some w=>injection h with h;cases h
theorem Ch{e:Zb}{T:Tr}(h:T.dt e=fH eQ):T=.en:=by
 cases T with
 |bl=>exact absurd (qU h) (by decide)
 |en=>rfl
 |nd a f =>
  cases a with
  |none=>injection h with h;cases h
  |some w=>injection h with h;cases h
theorem EN{e f g:Zb}{i:List ao}{d:Nat}{T:Tr}(h:T≠.bl):numM e f g i d [] T=none:=by
 cases T with
 |bl=>exact absurd rfl h
 |en=>unfold numM;rw[if_pos rfl]
 |nd a j=>cases d with
  |zero=>unfold numM;rfl
  |succ d=>unfold numM;rw[if_pos rfl]
theorem BT{g i j e:Zb}{k:List ao}{T:Tr}(f:e≠[])(h:T≠.en):numM g i j k 0 e T=none:=by
 cases T with
 |bl=>unfold numM;rw[if_neg f]
 |en=>exact absurd rfl h
 |nd a l=>unfold numM;rfl
theorem LD{K:Za}{Cm Ck Cd bl en:Addr}(hb:∀H,bT K H bl (dw.map V.str))(he:∀H,bT K H en (eQ.map V.str)){D:Nat}{a9:Sp}(d5:D<=4)(hN:∀m,D=m+1->a9=mB K Cm Ck Cd m){vs:List V}{H:Hp}{Q:VK}{E:XK}(h:pf K Cm Ck Cd D vs H Q E):rR K Cd (i_ K Cm Ck Cd) (iE K Cm Ck Cd 4) (i9 K) a9 en bl (bq Q) (start sM vs) H:=by
 obtain⟨H0,x,sl,y,M,kd,cd,us,v,tv,T,kv,cv,n,d,face,f,J2,J4,ds,rfl,hD,St,Dy,hv,C,G,hz,ap,wf,hg,hn,k⟩:=h;obtain⟨dx,fs,g0,l1,l2,l3,l4⟩:=St.ob;have mo:=St.ks.mach.ok;have z1:=mo.asks4;have z2:=mo.says4;have ba:(T.dt J2).depth<=40:=aD (vV J2 6 T hg) (by decide);have t:∀(r:Option Int),numM f J2 J4 ds d face T=r->Q (vI r) H:=fun r e=>by
  have:=k kv cv H (Dy.more (by omega)) (fun _ _ e _=>e) (.refl _);rw[e]at this;exact this
 refine⟨_,rfl,_,rfl,?_⟩;rcases hv with⟨rfl,rfl⟩|⟨u,rfl,hu⟩
 ·refine bG ?_;refine⟨_,rfl,T.dt J2,fH dw,cV.dIn _ _ ap,bv (hb H),ba,by rw[bA];decide,_,rfl,?_⟩;by_cases c:T=.bl
  ·rw[zzr1 (by rw[c];rfl)];refine bG (t (some 0) ?_);rw[c];unfold numM;rw[if_pos rfl]
  ·rw[zzr0 (fun z=>c (Ci z))];exact bt (t none (EN c))
 have C:=C (by intro z;cases z);refine bt ?_;refine⟨_,rfl,T.dt J2,fH eQ,cV.dIn _ _ ap,bv (he H),ba,by rw[bA];decide,_,rfl,?_⟩;by_cases ce:T=.en
 ·rw[zzr1 (by rw[ce];rfl)];refine bG (t (some 0) ?_);rw[ce];unfold numM;rw[if_neg C]
 rw[zzr0 (fun z=>ce (Ch z))];refine bt ?_;refine⟨_,rfl,rfl,_,rfl,?_⟩
 match d,hD,hn,k,t with
 |0,_,_,_,t =>
  refine bG (t none (BT C ce))
 |d+1,hD,hn,k,t =>
 rw[zzr0 (by intro z;injection z with z;omega)];refine bt ?_;obtain⟨m,rfl⟩:∃m,D=m+1:=⟨D-1,by omega⟩;cases hN m rfl;have nb:pc (d+1)=13+60 * nB d+5 * pc d:=rfl;refine⟨_,rfl,x,dx,fs,rfl,Dy.ks.same _ _ g0,l4 "kinds_at" (by decide +kernel) (by decide +kernel) (by decide +kernel),_,rfl,H0,x,sl,y,M,kd,cd,u,us,kv,cv,n,face,f,J2,J4,ds,rfl,St,Dy,hu,G,hz,by omega,fun l ks bc H1 hl hK D1 N bd=>⟨l,rfl,⟨_,ay.of hl⟩,?_⟩⟩;have u1:=N _ _ hu rfl;rw[Ir C ce]at k;rw[iH]at hK;generalize hA:((askedF f J4 ds face).map some++[none]:List (Option Str))=A at hK k;have zA:A.length<=5:=by
  rw[<-hA,aO,ah];have:(askedF f J4 ds face).length<=4:=aD (dk _ _) z1;show _+1<=5;omega
 have as:ks.length=A.length:=by rw[Paired.length hK,ah]
 have bf:∀a∈A,∀O∈aP J2 a,O∈bW f J2:=fun a ha=>ym (J4:=J4) (ds:=ds) (face:=face) (by rw[hA];exact ha)
 let bI:Nat->L2.St->Hp->Prop:=fun i σ H'=>MN fun(bh bS:List (TK×V)) (acc:Int) (x5 x6:Option V)=>Jr (σ=[some (.ref x),some (.ref u),some (.int ((d+1:Nat))),some tv,some (.int acc),x5,x6]) (aheadB J2 (prodA f J2 J4 ds d face) (zX J2 T) A 1=aheadB J2 (prodA f J2 J4 ds d face) (zX J2 T) (A.drop i) acc) (Kp H1 H') (dI H0 H' kd cd bh bS f J2 J4 ds (n+1+i * (1+5 * nB d))) (Gr bc bh)
 refine cN (xs:=ks.map V.ref) bI
  ⟨bc,cv,1,_,_,rfl,rfl,fun _ _ e _=>e,D1.more (fo _ _),.refl _⟩ (fun i σ H' _ zq=>by obtain⟨_,_,_,_,_,_,_,bU,_,_⟩:=zq;exact ay.of (bU _ _ hl rfl)) ?_ ?_
 ·rintro i w σ H2 hw ⟨U,Y,acc,x5,x6,rfl,ea,I,D2,al⟩;obtain⟨q,hq,rfl⟩:=bV hw;have il:i<A.length:=by rw[<-as];exact(cj.1 hq).1
  obtain⟨b,aC⟩:∃b,A[i]?=some b:=⟨_,bM il⟩;obtain⟨b8,B,bi⟩:=Paired.getL hK hq;rw[cC,aC]at B;injection B with B;subst B;have ed:A.drop i=b::A.drop (i+1):=by
   obtain⟨h1,h2⟩:=cj.1 aC;rw[l6 h1,h2]
  rw[ed]at ea;have b9:(i+1) * (1+5 * nB d)=i * (1+5 * nB d)+(1+5 * nB d):=fk _ _;have b7:(i+1) * (1+5 * nB d)<=5 * (1+5 * nB d):=c7 _ (by omega);have an:cV K H2 (T.dt J2) tv:=cV.kt (N.trans I).kt _ _ ap;obtain⟨gs,b1,b2⟩:=bi.kp I;refine⟨_,rfl,_,rfl,tv,T,J2,rfl,an,wf.ok,z2,fun ql qs H3 bn bo S3=>⟨ql,rfl,⟨_,ay.of bn⟩,fun cl bz=>?_⟩⟩;have b3:=Paired.length bo;have z5:(K_ J2 T).length<=5:=by
   have:=wf.ok;generalize T=T' at this;cases T' with
   |bl=>exact cL _
   |en=>exact cL _
   |nd a ps=>show((aP J2 a).zip _).length<=5;rw[kG,cq];omega
  let b4:Nat->List V->Hp->Prop:=fun j vs H'=>∃ss:List Addr,vs=ss.map V.ref/\ab H3 H'/\H' cl=some (.lst vs)/\Fo K H' ss (((K_ J2 T).take j).map (·.1))
  refine cF (xs:=qs.map V.ref) b4 ⟨[],rfl,ab.new bz,aa,.nil⟩ (fun j vs H' _ zq=>by obtain⟨_,_,S,h',_⟩:=zq;exact⟨h',ay.of (S _ _ bn)⟩) ?_ ?_;rotate_left
  ·rintro j vs H4 w hw hj ⟨ss,rfl,S4,h4,J⟩;obtain⟨q',b5,rfl⟩:=bV hw;obtain⟨p',b6,s,pv,e1,e2,e3⟩:=Paired.getL bo b5;refine⟨q',_,rfl,bT.of (S4 _ _ e1),rfl,_,_,rfl,_,_,rfl,rfl,oS ?_⟩;have kt:gg H4 (upd H4 cl (.lst (ss.map V.ref++[.ref s]))):=dO h4;refine⟨_,rfl,h4,?_,n5 hj ⟨ss++[s],by rw[ax];rfl,fun b o e=>?_,aa,?_⟩⟩
   ·rw[ah,Paired.length J,ah,aA];exact ar (by omega)
   ·rw[ai (ae e bz)];exact S4 _ _ e
   ·rw[take_snoc b6,ax];exact d_ (J.kt kt) (aS.kt (fun b xs e=>kt _ _ (ab.kt S4 _ _ e)) e2)
  ·rintro vs H4 ⟨ss,rfl,S4,h4,J⟩;rw[ah,b3,bb,JY wf.ok]at J;have a0:=S3.trans S4;have D4:=D2.up a0;have L:Kp H2 H4:=ab.kp a0;have g:=I.trans L;refine⟨.s ((aP J2 b).map fH),.s ((zX J2 T).map fH),⟨q,_,rfl,ay.of (a0 _ _ b1),xr (Paired.mapP b2 fun _ _ r=>aS.kt L.kt r)⟩,⟨cl,_,rfl,ay.of h4,xr J⟩,aD (Cc _) (by decide),Cc _,_,rfl,?_⟩;rw[KL];by_cases cb:aP J2 b=zX J2 T
   ·rw[zzr1 cb];refine bG ?_;have a4:aheadB J2 (prodA f J2 J4 ds d face) (zX J2 T) A 1=some acc:=by
     rw[ea];unfold aheadB;rw[if_pos cb]
    rw[a4]at k;cases T with
    |bl=>have:=cq J2 b;rw[cb]at this;cases this
    |en=>exact absurd rfl ce
    |nd a ps =>
     refine⟨_,rfl,x,dx,fs,rfl,D4.ks.same _ _ g0,l4 "number_of_kind" (by decide +kernel) (by decide +kernel) (by decide +kernel),_,rfl,_,rfl,_,rfl,H0,x,sl,y,M,kd,cd,u,us,tv,a,ps,U,Y,_,d,face,f,J2,J4,ds,rfl,by omega,by omega,St,D4,g _ _ u1 rfl,G,hz,cV.kt L.kt _ _ an,wf,hg,by omega,fun a5 a6 H5 D5 a7 a8=>?_⟩;have kk:=k a5 a6 H5 (D5.more (by omega)) ((N.trans g).trans a7) (bd.trans (al.trans a8));have kk:Q (vI ((db (fun O=>cntM f J2 J4 ds d (behF J4 ds face O)) (fun O p=>numM f J2 J4 ds d (behF J4 ds face O) p) ((aP J2 a).zip ps) 0).map (acc+·))) H5:=kk;refine⟨_,rfl,_,rfl,?_⟩;cases eh:db (fun O=>cntM f J2 J4 ds d (behF J4 ds face O)) (fun O p=>numM f J2 J4 ds d (behF J4 ds face O) p) ((aP J2 a).zip ps) 0 with
     |none=>rw[eh]at kk;exact bG kk
     |some r=>rw[eh]at kk;exact bt ⟨_,rfl,_,rfl,_,_,rfl,rfl,kk⟩
   ·rw[zzr0 cb];refine bt ?_;have a4:aheadB J2 (prodA f J2 J4 ds d face) (zX J2 T) A 1=aheadB J2 (prodA f J2 J4 ds d face) (zX J2 T) (A.drop (i+1)) (acc+prodA f J2 J4 ds d face b):=by
     rw[ea];conv=>lhs;unfold aheadB
     rw[if_neg cb]
    refine⟨_,rfl,_,rfl,x,dx,fs,rfl,D4.ks.same _ _ g0,l4 "count_of" (by decide +kernel) (by decide +kernel) (by decide +kernel),_,rfl,_,rfl,_,rfl,H0,x,sl,y,M,kd,cd,u,q,us,U,Y,_,d,aP J2 b,face,f,J2,J4,ds,rfl,by omega,by omega,St,D4,g _ _ u1 rfl,G,hz,bi.kp g,bf b (bQ aC),by rw[cq];omega,by omega,fun a5 a6 H5 D5 a7 a8=>?_⟩;exact⟨_,_,rfl,rfl,a5,a6,_,_,_,rfl,a4,g.trans a7,D5.more (by omega),al.trans a8⟩
 ·rintro σ H2 ⟨U,Y,acc,x5,x6,rfl,ea,I,D2,al⟩;rw[ah,as,oH]at ea;rw[ah,as]at D2;have m5:A.length * (1+5 * nB d)<=5 * (1+5 * nB d):=c7 _ zA;have kk:=k U Y H2 (D2.more (by omega)) (N.trans I) (bd.trans al);rw[ea]at kk;exact kk
inductive qe(K:Za)(Cm:Addr)(vs:List V)(H:Hp)(Q:VK)(E:XK):Prop
 |mk (M:Addr) (d:Nat) (tv:V) (T:Tr) (J0 J2 J4:Zb) (ds:List ao):(vs=[.ref M,.int (d:Nat),tv])->(d<=4)->(bY Cm H M J0 J2 J4 ds)->(cV K H (T.dt J2) tv)->(T.wf J0 J2)->(T.hgt<=6)->((ki J2 [] [] T).length<=1000)->(∀H',ab H H'->Q (vI (numM J0 J2 J4 ds d (closF J4 ds (J4.take 1)) T)) H')->qe K Cm vs H Q E
theorem HH{K:Za}{f z Cd:Addr}{A:List V}{H:Hp}{Q:VK}{E:XK}(h:qe K f A H Q E):Bl K Cd (kg f z Cd) (pf K f z Cd 4) (cu f) cH (ng K f) (bq Q) (start CA A) H:=by
 obtain⟨M,d,B,T,j,g,l,m,rfl,p,a,i,wf,L,N,k⟩:=h;have z2:=a.ok.says4;have z3:=a.ok.rooms26;have bd:=K9 d p;refine⟨_,rfl,_,rfl,M,B,T,j,g,l,m,rfl,a,i,wf,N,fun e O=>?_,fun q r=>?_⟩
 ·have:=BN g T [] [] e O;have:([]:List Nat).length=0:=rfl;omega
 have C:=a.same r;refine⟨_,rfl,d,rfl,p,?_⟩;refine⟨_,rfl,fun x s D u ne=>?_⟩;have U:ab q (upd (upd q s (.own x)) x (.ins Cd s [])):=fun b o e=>by rw[ai (ae e D)];exact kp e u
 refine⟨q,x,s,M,j,g,l,m,rfl,aa,C,D,U,fun Y sl y kd cd us H1 St n G=>⟨rfl,?_⟩⟩;obtain⟨v,w,g1,_,_,_,l4⟩:=St.ob;refine⟨x,v,w,rfl,n.ks.same _ _ g1,l4 "number_at" (by decide +kernel) (by decide +kernel) (by decide +kernel),_,rfl,M,j,g,l,m,rfl,St.ks.mach.same n.ks.same,fun t F H2 I hF J=>?_⟩;rw[kD hF]at I;refine⟨_,rfl,_,rfl,Y,x,sl,y,M,kd,cd,us,.ref t,B,T,[],[],0,d,_,j,g,l,m,rfl,p,St,n.up J,.inr ⟨t,rfl,I⟩,fun _=>wa C.ok.rooms0,nK,aD kC (by omega),cV.kt (ab.kt (r.trans (G.trans (n.ks.same.trans J)))) _ _ i,wf,L,by omega,fun al an H3 D3 _ _=>k H3 (r.trans (G.trans D3.ks.same))⟩
def Mf(c:Sg->Int):List Sg->Int
 |[]=>1
 |sg::r=>Mf c r * c sg
theorem Ie(c:Sg->Int)(l:List Sg):Mf c l.reverse=f8 (l.map c):=by
 rw[<-xV];have a:∀l:List Sg,Mf c l=l.foldr (fun e b=>b * c e) 1:=fun l=>by
  induction l with
  |nil=>rfl
  |cons x r f=>rw[Mf,f];rfl
 rw[a,List.foldr_reverse]
def MW(c c':Sg->Int)(g:Sg->Int->Int):List Sg->Int->Int
 |[],_=>0
 |sg::r,n=>MW c c' g r (n / c sg) * c' sg+g sg (n % c sg)
theorem xQ(c:Sg->Int)(f:Sg->Tr->Option Int)(x:Sg×Tr):∀(L:List (Sg×Tr)) (a:Int),db c f (L++[x]) a=(db c f L a).bind fun b=>(f x.1 x.2).map fun e=>b * c x.1+e
 |[],a=>by
  show db c f [x] a=_;unfold db;cases f x.1 x.2 with
  |none=>rfl
  |some e=>rfl
 |y::L,a=>by
  show db c f (y::(L++[x])) a=_;unfold db;cases f y.1 y.2 with
  |none=>rfl
  |some e=>exact xQ c f x L _
theorem EX{c c':Sg->Int}{g:Sg->Int->Int}{f:Sg->Int->Tr}{nu:Sg->Tr->Option Int}(a:∀sg,0<c sg)(e:∀sg n,0<=n->n<c sg->nu sg (f sg n)=some (g sg n)):∀(l:List Sg) (m:Int),db c' nu (l.reverse.zip (mN c f l m).reverse) 0=some (MW c c' g l m)
 |[],_=>rfl
 |sg::r,m=>by
  rw[mN,rF,rF,List.zip_append (by rw[iN,iN,sv])];show db c' nu (_++[(sg,f sg (m % c sg))]) 0=_;rw[xQ,EX a e r];show(nu sg (f sg (m % c sg))).map _=_;rw[e sg _ (kJ _ (by have:=a sg;omega)) (kI _ (a sg))]
  rfl
theorem EE{c:Option Str->Int}:∀{A:List (Option Str)}{n:Int},0<=n->n<(A.map c).sum->∃a m,gG c A n=some (a,m)
 |[],n,f,e=>by
  have e:n<0:=e;omega
 |b::r,n,f,e=>by
  rw[bF,oG]at e;unfold gG;by_cases h:n<c b
  ·exact⟨b,n,if_pos h⟩
  ·rw[if_neg h];exact EE (by omega) (by omega)
theorem ED{c c':Option Str->Int}(f:∀a,0<c' a):∀{A:List (Option Str)}{n:Int}{a:Option Str}{m:Int},A.Nodup->0<=n->gG c A n=some (a,m)->∃s,(∀e,fE c' A a e=some (e+s))/\0<=s/\0<=m/\m<c a/\∀x,0<=x->x<c' a->gG c' A (s+x)=some (a,x)
 |[],_,_,_,_,_,h=>by cases h
 |b::r,n,a,m,p,q,h=>by
  unfold gG at h;by_cases i:n<c b
  ·rw[if_pos i]at h;injection h with h;injection h with j l;subst j l;refine⟨0,fun e=>?_,rg _,q,i,fun x o k=>?_⟩
   ·unfold fE;rw[if_pos rfl,Int.add_zero]
   ·unfold gG;rw[Int.zero_add,if_pos k]
  ·rw[if_neg i]at h;have g:=h_.1 p;have ne:b≠a:=fun z=>g.1 (by rw[z];exact qG h);obtain⟨s,j,l,t,u,v⟩:=ED f g.2 (show 0<=n-c b by omega) h;have w:=f b;refine⟨c' b+s,fun e=>?_,by omega,t,u,fun x o k=>?_⟩
   ·unfold fE;rw[if_neg ne,j,Int.add_assoc]
   ·unfold gG;rw[if_neg (by omega),show c' b+s+x-c' b=s+x by omega];exact v x o k
theorem Iu(a e f:Zb)(g:List ao)(n:Int):∀d,nthT a e f g d [] n=.bl
 |0=>by unfold nthT;rw[if_pos rfl]
 |d+1=>by unfold nthT;rw[if_pos rfl]
theorem Iv{e f g a:Zb}{i:List ao}(h:a≠[]):∀d,nthT e f g i d a 0=.en
 |0=>by unfold nthT;rw[if_neg h]
 |d+1=>by unfold nthT;rw[if_neg h,if_pos rfl]
theorem Gm{i j f e:Zb}{g:List ao}{d:Nat}{n:Int}{a:Option Str}{m:Int}(h:e≠[])(l:n≠0)(o:gG (prodA i j f g d e) ((askedF i f g e).map some++[none]) (n-1)=some (a,m)):
  nthT i j f g (d+1) e n=.nd a (mN (fun k=>cntM i j f g d (behF f g e k)) (fun k=>nthT i j f g d (behF f g e k)) (aP j a).reverse m).reverse:=by
 unfold nthT;rw[if_neg h,if_neg l,o]
theorem Af(a e f:Zb)(g:List ao)(d:Nat):numM a e f g d [] .bl=some 0:=by unfold numM;rw[if_pos rfl]
theorem Ae{e f g a:Zb}{i:List ao}{d:Nat}(h:a≠[]):numM e f g i d a .en=some 0:=by unfold numM;rw[if_neg h]
theorem Cv{f J4 face:Zb}{ds:List ao}(h:f.Nodup):((askedF f J4 ds face).map some++[none]:List (Option Str)).Nodup:=by
 rw[d7];refine⟨?_,by simp,fun a i b j e=>?_⟩
 ·have:(askedF f J4 ds face).Nodup:=List.Pairwise.filter _ h;exact List.Pairwise.map _ (fun a b g z=>g (by injection z)) this
 ·obtain⟨x,_,rfl⟩:=aV.1 i;rw[eE.1 j]at e;cases e
open Builtin.Int (intBits)
def hB:Nat->Nat
 |0=>0
 |d+1=>12+25 * hB d
def zn(K:Za):TS :=
 aq (cG (be (az r9 (az (dF K) V0 (tC (.int 0))) (tC (.str "tell")))) (aQ (bj (ak (az (dF K) V0 (tC (.int 1))) (ak (az jC (cT (aw (az (dF K) V0 (tC (.int 2))))) (cA 2 [] (B_ K (az (dF K) V0 (tC (.int 3)))) (g6 K 2 (aY U0 (aY U1 (gM)))) (gj) V1)) bp)))) (bC))
 (aQ (bj (ak (tC .non) (ak (az jC (cA 2 [] (B_ K (az (dF K) V0 (tC (.int 1)))) (g6 K 2 (aY U0 (aY U1 (gM)))) (gj) V1) (cT (aw (az (dF K) V0 (tC (.int 2)))))) bp))))
def AT:List Str:=["trial"]
open Builtin.Int (intBits)
open Builtin.Int (intBits)
theorem vY{K:Za}{σ:L2.St}{H:Hp}{b l:Addr}{xs:List V}{ws:Zb}{ps:List DT}{Q:Hp->Prop}(C:aS K H b xs)(t:gO K H xs (fR eM ws ps))(U:ws.length=ps.length)(z:ws.length<=1000)(u:H l=none)
  (k:∀(f:List V) (a:Hp),a l=some (.lst f)->gO K a f ps->ab H a->Q a):dJ 2 [] σ (Ls K b) (g6 K 2 (aY U0 (aY U1 (gM)))) (gj) V1 H l Q:=by
 have D:=Paired.length t;rw[uE]at D
 let m:Nat->List V->Hp->Prop:=fun i f a=>ab H a/\a l=some (.lst f)/\gO K a f (ps.take i)
 refine mP (xs:=xs) m ⟨ab.new u,aa,.nil⟩ (fun i f a _ E=>by obtain⟨S,n,_⟩:=E;exact⟨n,aS.sq (aS.kt (ab.kt S) C)⟩) ?_ ?_
 ·rintro f a ⟨S,n,g⟩;have G:xs.length=ps.length:=by omega
  rw[G,bb]at g;exact k f a n g S
 ·rintro i f v x p I ⟨S,A,g⟩;obtain⟨d,B⟩:∃d,ps[i]?=some d:=⟨_,bM (by omega)⟩;obtain⟨w,J⟩:∃w,ws[i]?=some w:=⟨_,bM (by omega)⟩;obtain⟨y,j,h⟩:=Paired.getL t p;rw[yu,J,B]at j;injection j with j;rw[<-j]at h;obtain⟨c,L,rfl,M,Y,N,rfl,O,T,q,rfl,r,s⟩:=h;have s:q=[]:=s;subst s;refine⟨c,_,rfl,aS.sq (aS.kt (ab.kt S) M),rfl,_,_,rfl,_,_,rfl,rfl,oS ?_⟩;have kt:gg v (upd v l (.lst (f++[T]))):=dO A;refine⟨_,rfl,A,?_,n5 I ⟨fun b o e=>?_,aa,?_⟩⟩
  ·rw[Paired.length g,aA];exact ar (by omega)
  ·rw[ai (ae e u)];exact S _ _ e
  ·rw[take_snoc B];exact d_ (gO.kt kt g) (cV.kt (fun b xs e=>kt _ _ (ab.kt S _ _ e)) _ _ r)
inductive kb(K:Za)(vs:List V)(H:Hp)(Q:VK)(E:XK):Prop
 |mk (v:V) (a:Option Str) (ps:List Tr) (J2:Zb):(vs=[v])->(cV K H ((Tr.nd a ps).dt J2) v)->(ps.length=J2.length+1)->(J2.length<=4)->(∀(q l:Addr) (us:List V) (H':Hp),H l=none->H' q=some (.tup [lg a,.ref l])->H' l=some (.lst us)->gO K H' us (Tr.dts J2 ps)->ab H H'->Q (.ref q) H')->kb K vs H Q E
theorem FS{K:Za}{vs:List V}{H:Hp}{Q:VK}{E:XK}(h:kb K vs H Q E):zn K (bq Q) (start AT vs) H:=by
 obtain⟨v,a,ps,n,rfl,w,ok,z4,k⟩:=h;have zd:(Tr.dts n ps).length=n.length+1:=by rw[Tr.dts_map,ah,ok]
 have w:cV K H (eW n a (Tr.dts n ps)) v:=w;generalize Tr.dts n ps=f at zd w k;cases a with
 |some a =>
  obtain⟨d0,g⟩:∃d,f[0]?=some d:=⟨_,bM (by omega)⟩;rw[gD g]at w;have ec:f=d0::f.drop 1:=by
   cases f with
   |nil=>cases g
   |cons x r=>injection g with g;rw[g];rfl
  obtain⟨b,xs,rfl,p,x0,an,rfl,y,x1,ap,rfl,J,e,L,rfl,e2,x3,as,rfl,e3,A⟩:=w;have A:as=[]:=A;subst A;have y:x0=V.str "tell":=y;have J:x1=V.str a:=J;subst y J;refine⟨_,rfl,b,_,0,_,rfl,rfl,aS.sq p,aN (j:=0) rfl,rfl,_,rfl,?_⟩;rw[zzr1 rfl];refine bG ?_;refine⟨_,rfl,b,_,1,_,rfl,rfl,aS.sq p,aN (j:=1) rfl,_,rfl,b,_,2,e,rfl,rfl,aS.sq p,aN (j:=2) rfl,(by show 1<=aj;decide),fun l B=>?_⟩;have s:ab H (upd H l (.lst [e])):=ab.new B;have M:upd H l (.lst [e]) l=some (.lst [e]):=aa;generalize upd H l (.lst [e])=H1 at s M ⊢;obtain⟨b3,a4,rfl,N,aC⟩:=e3;refine⟨_,rfl,b,_,3,.ref b3,rfl,rfl,aS.sq (aS.kt (ab.kt s) p),aN (j:=3) rfl,b3,rfl,⟨_,aS.sq (aS.kt (ab.kt s) N)⟩,fun cl C=>?_⟩;refine vY (ws:=n) (ps:=f.drop 1) (aS.kt (ab.kt s) N) (gO.kt (ab.kt s) (gO.of aC)) (by rw[eF];omega) (by omega) C fun i m h2 O t=>?_;have zu:i.length<=4:=by rw[Paired.length O,eF];omega
  refine⟨l,cl,_,_,rfl,rfl,t _ _ M,h2,cW (ar (by show 1+_<=1000;omega)),fun r T=>⟨(by show 2<=aj;decide),fun q D=>?_⟩⟩;have u:ab m (upd m r (.lst ([e]++i))):=ab.new T;have r3:upd m r (.lst ([e]++i)) r=some (.lst (e::i)):=aa
  change upd m r (.lst ([e]++i)) q=none at D
  show Q (.ref q) (upd (upd m r (.lst ([e]++i))) q (.tup [.str a,.ref r]));generalize upd m r (.lst ([e]++i))=o at u r3 D ⊢;have I:ab o (upd o q (.tup [.str a,.ref r])):=ab.new D;have U:=t.trans (u.trans I);refine k q r (e::i) _ ((s.trans t).free T) aa (I _ _ r3) ?_ (s.trans U);rw[ec];exact .cons (cV.kt (ab.kt (s.trans U)) _ _ e2) (gO.kt (ab.kt (u.trans I)) O)
 |none =>
  obtain⟨d0,g⟩:∃d,f[n.length]?=some d:=⟨_,bM (by omega)⟩;rw[gE g]at w;have ec:f=f.take n.length++[d0]:=by rw[<-take_snoc g,<-zd,bb]
  obtain⟨b,xs,rfl,p,x0,an,rfl,y,x1,ap,rfl,J,e,L,rfl,e2,A⟩:=w;have A:L=[]:=A;subst A;have y:x0=V.str "wait":=y;subst y;refine⟨_,rfl,b,_,0,_,rfl,rfl,aS.sq p,aN (j:=0) rfl,rfl,_,rfl,?_⟩;rw[zzr0 (by intro z;injection z with z;exact absurd z (by decide))];refine bt ?_;obtain⟨b1,a5,rfl,Y,a0⟩:=J;refine⟨_,rfl,b,_,1,.ref b1,rfl,rfl,aS.sq p,aN (j:=1) rfl,b1,rfl,⟨_,aS.sq Y⟩,fun cl C=>?_⟩;refine vY (ws:=n) (ps:=f.take n.length) Y (gO.of a0) (by rw[aA];omega) (by omega) C fun i m h2 O t=>?_;have zu:i.length<=4:=by rw[Paired.length O,aA];omega
  refine⟨_,rfl,b,_,2,e,rfl,rfl,aS.sq (aS.kt (ab.kt t) p),aN (j:=2) rfl,(by show 1<=aj;decide),fun l B=>?_⟩;have u:ab m (upd m l (.lst [e])):=ab.new B;have al:upd m l (.lst [e]) l=some (.lst [e]):=aa;generalize upd m l (.lst [e])=o at u al ⊢;refine⟨cl,l,_,_,rfl,rfl,u _ _ h2,al,cW (ar (by show _+1<=1000;omega)),fun r T=>⟨(by show 2<=aj;decide),fun q D=>?_⟩⟩;have I:ab o (upd o r (.lst (i++[e]))):=ab.new T;have r4:upd o r (.lst (i++[e])) r=some (.lst (i++[e])):=aa
  change upd o r (.lst (i++[e])) q=none at D
  show Q (.ref q) (upd (upd o r (.lst (i++[e]))) q (.tup [.non,.ref r]));generalize upd o r (.lst (i++[e]))=H4 at I r4 D ⊢;have S5:ab H4 (upd H4 q (.tup [.non,.ref r])):=ab.new D;have G:=u.trans (I.trans S5);refine k q r (i++[e]) _ ((t.trans u).free T) aa (S5 _ _ r4) ?_ (t.trans G);rw[ec];exact d_ (gO.kt (ab.kt G) O) (cV.kt (ab.kt (t.trans G)) _ _ e2)
def zo(K:Za)(sp_law_asked:Sp)(sp_law_times:Sp)(sp_law_part_signs:Sp)(sp_law_number:Sp)(sp_law_after:Sp)(sp_law_sizes:Sp)(sp_law_pieces:Sp):TS :=
 aq (cG (be (az (z6 K) V2 (bj (bp)))) (aQ (az (cM K) (cT (aT (tC .non) (tC (.int 0)))) (gk Ey (ak (az (z6 K) V4 (bj (aw (tC (.str "blame"))))) bp)))) (bC))
 (aq (cG (C2 (be (az r9 (az (dF K) V4 (tC (.int 0))) (tC (.str "end")))) (C2 (be (az r9 (az (dF K) V4 (tC (.int 0))) (tC (.str "blame")))) (be (az r9 V3 (tC (.int 0)))))) (aQ (az (cM K) (cT (aT (tC .non) (tC (.int 0)))) (gk Ey (ak (az (z6 K) V4 (bj (aw (tC (.str "end"))))) bp)))) (bC))
 (aq (aI (aL sp_law_pieces (aw V4)) (g6 K 2 (aY U5 (aY U6 (gM)))))
 (aq (aI (tC (.int 1)) U7)
 (aq (fA (cr K (az jC (aL sp_law_asked (c9 V0 V1 V2)) (cT (aw (tC .non))))) U8 (aq (aI (aL sp_law_sizes (ak V0 (ak V1 (c9 V2 V8 V3)))) U9)
 (aq (cG (be (az r9 V8 V5)) (aq (aI (tC (.int 0)) Mh)
 (aq (fA (Li K (c9 (aL sp_law_part_signs (aT V0 V5)) V9 V6)) (g6 K 3 (aY M5 (aY U12 (aY U13 (gM))))) (aq (aI (aL sp_law_number (ak V0 (ak V1 (ak (aL sp_law_after (ak V0 (c9 V1 V2 M3))) (aT (az sZ V3 (tC (.int 1))) V13))))) U14)
 (aq (cG (tB (vk V14)) (aQ (tC .non)) (bC))
 (aI (az dS (az xA Jn MZ) V14) Mh))))
 (aQ (az dS V7 Jn)))) (bC))
 (aI (az dS V7 (aL sp_law_times (aw V9))) U7))))
 (aQ (tC .non))))))
def AU:List Str:=["told","known","face","deep","trial","ask","some","start","other","sizes","number","sign","size","part","own"]
def CY(K:Za):TS :=
 aQ (bj (ak (tC (.str "wait")) (ak (gk (oz K) (ak (cA 1 [1] (cr K (az (dF K) V0 (tC (.int 1)))) U0 (gj) (bj (aT V0 V1))) bp)) (aw V1))))
def DZ:List Str:=["told","other"]
def Br(K:Za)(sp_law_take:Sp)(sp_law_bent:Sp)(sp_law_pieces:Sp)(sp_law_wait:Sp):TS :=
 aq (cG (C2 (be (az r9 (az (dF K) V2 (tC (.int 0))) (tC (.str "end")))) (C2 (be (az r9 (az (dF K) V2 (tC (.int 0))) (tC (.str "blame")))) (be (az r9 (aL sp_law_take (aT V0 (tC (.int 4)))) (tC (.int 0)))))) (aq (aI (az (cM K) (az (dF K) V1 (tC (.int 0))) (aL sp_law_take (ak V0 (ak (gk (ie K) (aw (az (dF K) V1 (tC (.int 0))))) bp)))) U3)
 (aq (aI (gk (oz K) (ak (cA 1 [] (cr K (az (dF K) V1 (tC (.int 1)))) U0 (gj) (bj (aT V0 (bj (aw (tC (.str "end"))))))) bp)) U4)
 (aq (aI (cT (ak (bj (aw (tC (.str "end")))) (ak (bj (aw (tC (.str "blame")))) (ak (aL sp_law_wait (aT V1 (bj (aw (tC (.str "end")))))) (ak (aL sp_law_wait (aT V1 (bj (aw (tC (.str "blame")))))) bp))))) U5)
 (aQ (az (cM K) (az jC V5 (cT (ak (bj (ak (tC (.str "tell")) (c9 V3 (bj (aw (tC (.str "end")))) V4))) bp))) (aL sp_law_take (aT V0 (tC (.int 5))))))))) (bC))
 (aq (aI (aL sp_law_pieces (aw V2)) (g6 K 2 (aY U3 (aY U5 (gM)))))
 (aq (aI (aL sp_law_take (aT V0 (gk (ie K) (aw V5)))) U6)
 (aq (aI (aL sp_law_take (aT V0 (gk (ie K) (aw V5)))) U7)
 (aq (cG (be (az r9 (aL sp_law_take (aT V0 (tC (.int 3)))) (tC (.int 0)))) (aI (bj (aT (az (cM K) V5 V7) (az (cM K) V5 V6))) (g6 K 2 (aY (xa V5 V6 oA) (aY (xa V5 V7 oA) (gM))))) (aI (aL sp_law_bent (c9 V0 V1 (az (cM K) V5 V6))) (xa V5 V6 oA)))
 (aq (cG (tB (vk V3)) (aQ (bj (ak (tC (.str "wait")) (ak (vh K (ak (az (dF K) V1 (tC (.int 1))) (ak (wG (lN K) V5 (c_) (fz (Jz (rU fun i=>.int (-i)) (tC (.int 1))))) bp))) (aw (az (cM K) V5 (Jz (rU fun i=>.int (-i)) (tC (.int 1))))))))) (bC))
 (aQ (bj (ak (tC (.str "tell")) (ak V3 (ak (az (cM K) V5 (tC (.int 0))) (ak (vh K (aT (az (dF K) V1 (tC (.int 1))) (wG (lN K) V5 (fz (tC (.int 1))) (c_)))) bp)))))))))))
def CH:List Str:=["pen","told","trial","ask","ended","some","at","other"]
def JN(K:Za)(sp_number_of:Sp)(sp_law_number:Sp)(sp_law_take:Sp)(sp_law_bent:Sp)(sp_made_by:Sp)(sp_law_far:Sp)(sp_law_count:Sp)(sp_law_begin:Sp)(sp_law_machine:Sp)(sp_law_model:Sp)(sp_law_open:Sp):TS :=
 aq (aI (aL sp_law_open (aw V0)) U1)
 (aq (aI (aL sp_law_model (ak V1 (ak (tC (.int 6)) (aw (aL sp_law_take (aT V1 (tC (.int 2)))))))) U2)
 (aq (aI (aL sp_law_machine (aw V2)) U3)
 (aq (aI (az (cM K) (cT (ak (tC (.int 4)) (c9 (tC (.int 3)) (tC (.int 2)) (tC (.int 1))))) (aL sp_law_take (aT V1 (tC (.int 4))))) U4)
 (aq (aI (pb) U5)
 (aq (aI (aL sp_law_begin (aw V2)) U6)
 (aq (aI (aL sp_law_count (ak V2 (c9 V5 V6 V4))) U7)
 (aq (fA (tt (aw (tC (.int 2)))) U8 (aq (aI (aL sp_law_far (aT V1 V7)) U9)
 (aq (aI (aL sp_made_by (c9 V3 V4 V9)) Mh)
 (aq (cG (be (az Ms (aL sp_number_of (c9 V3 V4 Jn)) V9)) (aQ (tC (.bl false))) (bC))
 (aq (fA (tt (aw (aL sp_law_take (aT V1 (tC (.int 3)))))) M5 (aI (aL sp_law_bent (c9 V1 V2 Jn)) Mh))
 (cG (be (az Ms (aL sp_number_of (c9 V3 V4 Jn)) (aL sp_law_number (ak V2 (ak V5 (c9 V6 V4 Jn)))))) (aQ (tC (.bl false))) (bC)))))))
 (aQ (tC (.bl true))))))))))
def Fs:List Str:=["script","pen","told","machine","deep","known","face","many","case","number","trial","again"]
def Ia:List Str:=["script"]
theorem vC{c:Option Str->Int}:∀{A:List (Option Str)}{n:Int}{a:Option Str}{m f:Int},A.Nodup->gG c A n=some (a,m)->fE c A a f=some (f+(n-m))
 |[],_,_,_,_,_,h=>by cases h
 |b::r,n,a,m,f,g,h=>by
  have g:=h_.1 g;unfold gG at h;unfold fE;split at h
  ·injection h with h;injection h with i j;rw[if_pos i,j];congr 1;omega
  ·rw[if_neg (fun e=>g.1 (by rw[e];exact qG h)),vC g.2 h];congr 1;omega
theorem K5{c:Sg->Int}(e:∀sg,0<c sg):∀(l:List Sg) (n:Int),0<=n->n<Mf c l->MW c c (fun _ x=>x) l n=n
 |[],n,f,a=>by
  have a:n<1:=a;show(0:Int)=n;omega
 |sg::r,n,f,a=>by
  have a:n<Mf c r * c sg:=a;show MW c c (fun _ x=>x) r (n / c sg) * c sg+n % c sg=n;rw[K5 e r (n / c sg) (Int.ediv_nonneg f (uF (e sg))) (Int.ediv_lt_of_lt_mul (e sg) a)];have:=Int.mul_ediv_add_emod n (c sg);rw[Int.mul_comm]at this;exact this
theorem EM{i J2 J4:Zb}{ds:List ao}(r:i.Nodup):∀(d:Nat) (face:Zb) (n:Int),0<=n->n<cntM i J2 J4 ds d face->numM i J2 J4 ds d face (nthT i J2 J4 ds d face n)=some n
 |0,face,n,o,k=>by
  have e:cntM i J2 J4 ds 0 face=1:=by unfold cntM;rfl
  have:n=0:=by omega
  subst this;unfold nthT;by_cases h:face=[]
  ·rw[if_pos h,h,Af]
  ·rw[if_neg h,Ae h]
 |d+1,face,n,o,k=>by
  by_cases h:face=[]
  ·rw[h,Iu,Af];rw[h,v9]at k;congr 1;omega
  by_cases t:n=0
  ·rw[t,Iv h,Ae h]
  rw[AC h]at k;obtain⟨a,m,q⟩:=EE (c:=prodA i J2 J4 ds d face) (A:=(askedF i J4 ds face).map some++[none]) (n:=n-1) (by omega) (by omega);have l:=Cv (J4:=J4) (face:=face) (ds:=ds) r;obtain⟨s,_,_,w,y,_⟩:=ED (c':=prodA i J2 J4 ds d face) (xD i J2 J4 ds d face) l (by omega) q;rw[Gm h t q];unfold numM;rw[if_neg h,vC l q];have u:∀j,0<cntM i J2 J4 ds d (behF J4 ds face j):=fun j=>le _ _ _ _ _ _;have v:=EX (c:=fun j=>cntM i J2 J4 ds d (behF J4 ds face j)) (c':=fun j=>cntM i J2 J4 ds d (behF J4 ds face j)) (g:=fun _ x=>x) (f:=fun j=>nthT i J2 J4 ds d (behF J4 ds face j)) (nu:=fun j p=>numM i J2 J4 ds d (behF J4 ds face j) p) u (fun j n o k=>EM r d _ n o k) (aP J2 a).reverse m;rw[List.reverse_reverse]at v;show((db _ _ _ 0).map _)=_;rw[v,K5 u _ _ w (by rw[Ie];exact y)];show some (1+(n-1-m)+m)=some n;congr 1;omega
mutual
def Tr.sz:Tr->Nat
 |.bl=>1
 |.en=>1
 |.nd _ ps=>Tr.szs ps+1
def Tr.szs:List Tr->Nat
 |[]=>0
 |t::r=>t.sz+Tr.szs r
end
mutual
theorem Ab(e:Zb):∀(t:Tr) (w:List Nat) (s:List Sg),(ki e w s t).length=t.sz
 |.bl,_,_=>rfl
 |.en,_,_=>rfl
 |.nd a f,w,s=>by
  show(preEs e w s (aP e a) 0 f).length+1=Tr.szs f+1;rw[preEs_sz e f]
theorem preEs_sz(e:Zb):∀(a:List Tr) (w:List Nat) (s f:List Sg) (i:Nat),(preEs e w s f i a).length=Tr.szs a
 |[],_,_,_,_=>rfl
 |p::a,w,s,f,i=>by
  show(ki e _ _ p++preEs e _ _ _ _ a).length=p.sz+Tr.szs a;rw[aO,Ab e p,preEs_sz e a]
end
theorem HA:∀T:Tr,1<=T.sz
 |.bl=>aB _
 |.en=>aB _
 |.nd _ _=>yv (cL _)
theorem ul{t u:Tr}:∀{l:List Tr}{i:Nat},l[i]?=some t->Tr.szs (l.set i u)+t.sz=Tr.szs l+u.sz
 |[],_,h=>by cases h
 |x::l,0,h=>by
  injection h with h;show u.sz+Tr.szs l+t.sz=x.sz+Tr.szs l+u.sz;rw[h];omega
 |x::l,i+1,h=>by
  have:=ul (u:=u) (l:=l) (i:=i) h;show x.sz+Tr.szs (l.set i u)+t.sz=x.sz+Tr.szs l+u.sz;omega
theorem uw{n:Nat}:∀{l:List Tr},(∀t∈l,t.hgt<=n)->Tr.hgts l<=n
 |[],_=>cL _
 |t::r,h=>by
  have e:=h t dQ;have f:=uw fun q a=>h q (dY _ a);show max t.hgt (Tr.hgts r)<=n;omega
theorem Ew(t:Tr):∀n,Tr.szs (fT n t)=n * t.sz
 |0=>by rw[Nat.zero_mul];rfl
 |n+1=>by
  show t.sz+Tr.szs (fT n t)=_;rw[Ew t n,fk];omega
structure A7(J0 J2:Zb)(T U:Tr):Prop where
 wf:U.wf J0 J2
 hgt:U.hgt<=T.hgt+1
 sz:U.sz<=T.sz+5
theorem pB{J0 e:Zb}{T:Tr}{a:Option Str}{t:Tr}(z:e.length<=4)(h:∀w,a=some w->w∈J0)(i:t=.bl∨t=.en):A7 J0 e T (.nd a (fT (e.length+1) t)):=by
 have f:t.sz=1/\t.hgt=0/\t.wf J0 e:=by rcases i with rfl|rfl<;>exact⟨rfl,rfl,trivial⟩
 refine⟨⟨List.length_replicate,h,Tr.wfs_mem.2 fun x g=>by rw[List.eq_of_mem_replicate g];exact f.2.2⟩,?_,?_⟩
 ·have:=uw (n:=0) (l:=fT (e.length+1) t) fun x g=>by rw[List.eq_of_mem_replicate g,f.2.1];exact aB _
  show Tr.hgts _+1<=_;omega
 ·have:=HA T;show Tr.szs _+1<=_;rw[Ew,f.1];omega
theorem yj{J0 a:Zb}{T t:Tr}(e:t=.bl∨t=.en):A7 J0 a T t:=by
 have:=HA T;rcases e with rfl|rfl<;>exact⟨trivial,cL _,aD this (fo _ _)⟩
theorem GS{n o:Zb}{a:Option Str}{f:List Tr}{i j:Nat}{t u:Tr}(w:(Tr.nd a f).wf n o)(k:f[i]?=some t)(p:f[j]?=some u):A7 n o (.nd a f) (.nd a ((f.set i u).set j t)):=by
 obtain⟨q,r,l⟩:=w;have l:=Tr.wfs_mem.1 l;have h:∀x∈(f.set i u).set j t,x∈f:=fun x g=>by
  rcases yr g with g|rfl
  ·rcases yr g with g|rfl
   ·exact g
   ·exact bQ p
  ·exact bQ k
 refine⟨⟨by rw[kM,kM];exact q,r,Tr.wfs_mem.2 fun x g=>l x (h x g)⟩,?_,?_⟩
 ·have:=uw fun x g=>iI (h x g);show Tr.hgts _+1<=Tr.hgts f+1+1;omega
 ·have s:=ul (u:=u) k;have m:(f.set i u)[j]?=some u:=by
   by_cases e:i=j
   ·subst e;rw[List.getElem?_set_self (cj.1 k).1]
   ·rw[Em e,p]
  have v:=ul (u:=t) m;show Tr.szs _+1<=Tr.szs f+1+5;omega
theorem GU{g h:Zb}{a:Option Str}{e:List Tr}{i:Nat}{t u:Tr}(w:(Tr.nd a e).wf g h)(k:e[i]?=some t)(b:A7 g h t u):A7 g h (.nd a e) (.nd a (e.set i u)):=by
 obtain⟨m,o,j⟩:=w;have j:=Tr.wfs_mem.1 j;have p:=iI (bQ k);have q:=b.hgt;have bs:=b.sz;refine⟨⟨by rw[kM];exact m,o,Tr.wfs_mem.2 fun x f=>?_⟩,?_,?_⟩
 ·rcases yr f with f|rfl
  ·exact j x f
  ·exact b.wf
 ·have:=uw (n:=Tr.hgts e+1) (l:=e.set i u) fun x f=>by
   rcases yr f with f|rfl
   ·have:=iI f;omega
   ·omega
  show Tr.hgts _+1<=Tr.hgts e+1+1;omega
 ·have r:=ul (u:=u) k;show Tr.szs _+1<=Tr.szs e+1+5;omega
theorem x_{K:Za}{s:List Nat}{t:TE}{σ:L2.St}{H:Hp}{a l:Addr}{ws:Zb}{d:DT}{Q:Hp->Prop}(y:H a=some (.lst (ws.map V.str)))(E:ws.length<=1000)(u:H l=none)
  (z:∀(w:Str) (n:Hp) (R:VK),ab H n->(∀v h,cV K h (eM w d) v->ab n h->R v h)->t ((ei 1 s σ).set 0 (some (.str w))) n R)
  (k:∀(g:List V) (f:Hp),f l=some (.lst g)->gO K f g (ws.map fun w=>eM w d)->ab H f->Q f):dJ 1 s σ (Jw K a) U0 gj t H l Q:=by
 let p:Nat->List V->Hp->Prop:=fun i g f=>ab H f/\f l=some (.lst g)/\gO K f g ((ws.take i).map fun w=>eM w d)
 refine cF (xs:=ws.map V.str) p ⟨ab.new u,aa,.nil⟩ (fun i G f _ A=>by obtain⟨S,q,_⟩:=A;exact⟨q,ay.of (S _ _ y)⟩) ?_ ?_
 ·rintro g f ⟨S,q,j⟩;rw[ah,bb]at j;exact k g f q j S
 ·rintro i g f I r B ⟨S,x,j⟩;obtain⟨w,C,rfl⟩:=cE r;refine gN (oS (z w f _ S fun v h D m=>⟨m _ _ x,?_,n5 B ⟨fun b o e=>?_,aa,?_⟩⟩))
  ·rw[Paired.length j,ah,aA];exact ar (by omega)
  ·rw[ai (ae e u)];exact m _ _ (S _ _ e)
  ·have kt:gg h (upd h l (.lst (g++[v]))):=dO (m _ _ x);rw[take_snoc C,ax];exact d_ (gO.kt (fun b xs e=>kt _ _ (ab.kt m _ _ e)) j) (cV.kt kt _ _ D)
theorem y8(d:DT):∀(a:Zb),fR eM a (fT a.length d)=a.map fun w=>eM w d
 |[]=>rfl
 |w::a=>by
  show eM w d::fR eM a (fT a.length d)=_;rw[y8 d a];rfl
theorem CT(a:Zb)(d:DT):eW a none (fT (a.length+1) d)=.t [fG "wait",.t (a.map fun w=>eM w d),d]:=by
 rw[gE (d:=d) (List.getElem?_replicate_of_lt (Eh _)),List.take_replicate,uL (Ed _),y8]
theorem CU(e:Zb)(a:Str)(d:DT):eW e (some a) (fT (e.length+1) d)=.t [fG "tell",fG a,d,.t (e.map fun w=>eM w d)]:=by
 rw[gD (d:=d) (List.getElem?_replicate_of_lt (Nat.succ_pos _)),List.drop_replicate,Nat.succ_sub_one,y8]
theorem Aw(a:Zb)(t:Tr)(n:Nat):Tr.dts a (fT n t)=fT n (t.dt a):=by rw[Tr.dts_map,List.map_replicate]
inductive ka(K:Za)(vs:List V)(H:Hp)(Q:VK)(E:XK):Prop
 |mk (t l1 l2 l3 l4:Addr) (ts:Ze) (v:V) (d:DT) (J0 J2 J4:Zb) (ds:List ao):(vs=[.ref t,v])->(h9 H t l1 l2 l3 l4 ts J0 J2 J4 ds)->(J2.length<=4)->(cV K H d v)->(∀(r:V) (H':Hp),cV K H' (eW J2 none (fT (J2.length+1) d)) r->ab H H'->Q r H')->ka K vs H Q E
theorem HD{K:Za}{o:List V}{H:Hp}{Q:VK}{E:XK}(h:ka K o H Q E):CY K (bq Q) (start DZ o) H:=by
 obtain⟨t,J,p,L,M,N,v,d,O,A,U,Y,rfl,T,z,s,k⟩:=h;refine⟨_,rfl,t,_,1,.ref p,rfl,rfl,bT.of T.t,rfl,p,rfl,⟨_,ay.of T.a2⟩,fun B l=>?_⟩;refine x_ (d:=d) (ws:=A) T.a2 (by omega) l (fun w H1 R C D=>?_) fun e f G I u=>?_
 ·exact⟨_,rfl,_,rfl,(by show 2<=aj;decide),fun q x=>D _ _ ⟨q,_,rfl,.inl aa,_,_,rfl,e_ w,_,_,rfl,cV.kt (ab.kt (C.trans (ab.new x))) _ _ s,rfl⟩ (ab.new x)⟩
 ·refine⟨B,e,rfl,.inl ⟨ay.of G,fun a m=>⟨_,rfl,(by show 3<=aj;decide),fun r n=>?_⟩⟩⟩;have i:ab f (upd f a (.tup e)):=ab.new m;have g:upd f a (.tup e) a=some (.tup e):=aa
  change upd f a (.tup e) r=none at n
  show Q (.ref r) (upd (upd f a (.tup e)) r (.tup [.str "wait",.ref a,v]));generalize upd f a (.tup e)=y at i g n ⊢;have j:ab y (upd y r (.tup [.str "wait",.ref a,v])):=ab.new n;refine k _ _ ?_ (u.trans (i.trans j));rw[CT];exact⟨r,_,rfl,.inl aa,_,_,rfl,e_ _,_,_,rfl,⟨a,_,rfl,.inl (j _ _ g),gO.all (gO.kt (ab.kt (i.trans j)) I)⟩,_,_,rfl,cV.kt (ab.kt (u.trans (i.trans j))) _ _ s,rfl⟩
inductive jm(K:Za)(D:Nat)(vs:List V)(H:Hp)(Q:VK)(E:XK):Prop
 |mk (p c t l1 l2 l3 l4:Addr) (ts:Ze) (v:V) (T:Tr) (J0 J2 J4:Zb) (ds:List ao):(vs=[.ref p,.ref t,v])->(T.hgt<=D)->(gP H p c)->(h9 H t l1 l2 l3 l4 ts J0 J2 J4 ds)->(cK J0 J2 J4 ds)->(cV K H (T.dt J2) v)->(T.wf J0 J2) ->
  (∀(v':V) (U:Tr) (H':Hp),cV K H' (U.dt J2) v'->A7 J0 J2 T U->gP H' p c->bJ p H H'->Q v' H')->jm K D vs H Q E
theorem Fb(f:Zb):∀T:Tr,∃(e:Str) (r:List DT),T.dt f=.t (fG e::r)/\(e=("end":Str)↔T=.en)/\(e=("blame":Str)↔T=.bl)
 |.bl=>⟨_,_,rfl,⟨fun h=>absurd h (by decide),fun h=>(by cases h)⟩,⟨fun _=>rfl,fun _=>rfl⟩⟩
 |.en=>⟨_,_,rfl,⟨fun _=>rfl,fun _=>rfl⟩,⟨fun h=>absurd h (by decide),fun h=>(by cases h)⟩⟩
 |.nd none g=>⟨_,_,rfl,⟨fun h=>absurd h (by decide),fun h=>(by cases h)⟩,⟨fun h=>absurd h (by decide),fun h=>(by cases h)⟩⟩
 |.nd (some a) g=>⟨_,_,rfl,⟨fun h=>absurd h (by decide),fun h=>(by cases h)⟩,⟨fun h=>absurd h (by decide),fun h=>(by cases h)⟩⟩
theorem jX{K:Za}{p c t l1 l2 l3 l4:Addr}{ts:Ze}{v:V}{T:Tr}{C a J4:Zb}{ds:List ao}{H:Hp}{Q:VK}{D:on}(hD:D.rt=Q)(hp:gP H p c)(Tt:h9 H t l1 l2 l3 l4 ts C a J4 ds)(m:cK C a J4 ds)
  (k:∀(v':V) (U:Tr) (H':Hp),cV K H' (U.dt a) v'->A7 C a T U->gP H' p c->bJ p H H'->Q v' H') :
  (aq (aI (az (cM K) (az (dF K) V1 (tC (.int 0))) (aL fb (ak V0 (ak (gk (ie K) (aw (az (dF K) V1 (tC (.int 0))))) bp)))) U3)
  (aq (aI (gk (oz K) (ak (cA 1 [] (cr K (az (dF K) V1 (tC (.int 1)))) U0 (gj) (bj (aT V0 (bj (aw (tC (.str "end"))))))) bp)) U4)
  (aq (aI (cT (ak (bj (aw (tC (.str "end")))) (ak (bj (aw (tC (.str "blame")))) (ak (aL (ka K) (aT V1 (bj (aw (tC (.str "end")))))) (ak (aL (ka K) (aT V1 (bj (aw (tC (.str "blame")))))) bp))))) U5)
  (aQ (az (cM K) (az jC V5 (cT (ak (bj (ak (tC (.str "tell")) (c9 V3 (bj (aw (tC (.str "end")))) V4))) bp))) (aL fb (aT V0 (tC (.int 5))))))))) D [some (.ref p),some (.ref t),some v,none,none,none,none,none] H:=by
 have z2:=m.says4;have z1:=m.asks4;have za:0<C.length:=List.length_pos_iff.2 m.asks0;refine⟨_,rfl,t,_,0,.ref l1,rfl,rfl,bT.of Tt.t,rfl,_,rfl,_,rfl,t,_,0,.ref l1,rfl,rfl,bT.of Tt.t,rfl,.inl ⟨l1,_,rfl,.inl (ay.of Tt.a1),p,c,C.length,(by rw[ah];rfl),hp,by omega,by omega,fun r H2 r0 r1 a7 a8=>?_⟩⟩;have T2:=Tt.ex hp a8;obtain⟨j,rfl⟩:∃j:Nat,r=j:=⟨r.toNat,by omega⟩;obtain⟨w,hw⟩:∃w,C[j]?=some w:=⟨_,bM (by omega)⟩;refine⟨l1,_,j,.str w,rfl,rfl,ay.of T2.a1,aN (by rw[cC,hw];rfl),?_⟩;refine⟨_,rfl,t,_,1,.ref l2,rfl,rfl,bT.of T2.t,rfl,l2,rfl,⟨_,ay.of T2.a2⟩,fun cl bU=>?_⟩;refine x_ (d:=fH eQ) (ws:=a) T2.a2 (by omega) bU (fun w H1 R S1 kk=>?_) fun us H3 h3 hU S3=>?_
 ·refine⟨_,rfl,(by show 1<=aj;decide),fun e he=>⟨(by show 2<=aj;decide),fun q hq=>kk _ _ ⟨q,_,rfl,.inl aa,_,_,rfl,e_ w,_,_,rfl,mn (.inl (kp aa hq)),rfl⟩ ((ab.new he).trans (ab.new hq))⟩⟩
 refine⟨cl,us,rfl,.inl ⟨ay.of h3,fun E b1=>?_⟩⟩;have S4:ab H3 (upd H3 E (.tup us)):=ab.new b1;have a9:upd H3 E (.tup us) E=some (.tup us):=aa;generalize upd H3 E (.tup us)=H4 at S4 a9 ⊢;have a0:=S3.trans S4;refine⟨(by show 1<=aj;decide),fun f b2=>⟨(by show 1<=aj;decide),fun g ba=>?_⟩⟩;have S5:ab H4 (upd (upd H4 f (.tup [.str "end"])) g (.tup [.str "blame"])):=(ab.new b2).trans (ab.new ba);have bc:upd (upd H4 f (.tup [.str "end"])) g (.tup [.str "blame"]) f=some (.tup (eQ.map V.str)):=kp aa ba;have bd:upd (upd H4 f (.tup [.str "end"])) g (.tup [.str "blame"]) g=some (.tup (dw.map V.str)):=aa;generalize upd (upd H4 f (.tup [.str "end"])) g (.tup [.str "blame"])=H5 at S5 bc bd ⊢;have T5:=T2.same (a0.trans S5);refine⟨_,rfl,(by show 1<=aj;decide),fun e3 b3=>?_⟩;have S6:ab H5 (upd H5 e3 (.tup [.str "end"])):=ab.new b3;have bf:upd H5 e3 (.tup [.str "end"]) e3=some (.tup (eQ.map V.str)):=aa;generalize upd H5 e3 (.tup [.str "end"])=H6 at S6 bf ⊢;refine⟨t,l1,l2,l3,l4,ts,.ref e3,fH eQ,C,a,J4,ds,rfl,T5.same S6,z2,mn (.inl bf),fun l H7 b4 S7=>?_⟩;refine⟨_,rfl,(by show 1<=aj;decide),fun e4 b5=>?_⟩;have S8:ab H7 (upd H7 e4 (.tup [.str "blame"])):=ab.new b5;have bh:upd H7 e4 (.tup [.str "blame"]) e4=some (.tup (dw.map V.str)):=aa;generalize upd H7 e4 (.tup [.str "blame"])=H8 at S8 bh ⊢;have a4:=S6.trans (S7.trans S8);refine⟨t,l1,l2,l3,l4,ts,.ref e4,fH dw,C,a,J4,ds,rfl,T5.same a4,z2,mn (.inl bh),fun n H9 b6 S9=>?_⟩;refine⟨(by show 4<=aj;decide),fun sl b7=>?_⟩;have a5:ab H9 (upd H9 sl (.lst [.ref f,.ref g,l,n])):=ab.new b7;have N:upd H9 sl (.lst [.ref f,.ref g,l,n]) sl=some (.lst [.ref f,.ref g,l,n]):=aa;generalize upd H9 sl (.lst [.ref f,.ref g,l,n])=G at a5 N ⊢;refine⟨_,rfl,_,rfl,(by show 1<=aj;decide),fun O b8=>?_⟩;have bi:ab G (upd G O (.tup [.str "end"])):=ab.new b8;have Y:upd G O (.tup [.str "end"]) O=some (.tup (eQ.map V.str)):=aa;generalize upd G O (.tup [.str "end"])=I at bi Y ⊢;refine⟨_,rfl,(by show 4<=aj;decide),fun h b9=>?_⟩;have a6:ab I (upd I h (.tup [.str "tell",.str w,.ref O,.ref E])):=ab.new b9;have al:upd I h (.tup [.str "tell",.str w,.ref O,.ref E]) h=some (.tup [.str "tell",.str w,.ref O,.ref E]):=aa;generalize upd I h (.tup [.str "tell",.str w,.ref O,.ref E])=J at a6 al ⊢;refine⟨(by show 1<=aj;decide),fun fl cb=>?_⟩;have L:ab J (upd J fl (.lst [.ref h])):=ab.new cb;have an:upd J fl (.lst [.ref h]) fl=some (.lst [.ref h]):=aa;generalize upd J fl (.lst [.ref h])=o at L an ⊢;have i:=bi.trans (a6.trans L);refine⟨sl,fl,_,_,rfl,rfl,i _ _ N,an,by show 5<=aj;decide,fun ql bn=>?_⟩;have M:ab o (upd o ql (.lst [.ref f,.ref g,l,n,.ref h])):=ab.new bn;have ap:upd o ql (.lst [.ref f,.ref g,l,n,.ref h]) ql=some (.lst [.ref f,.ref g,l,n,.ref h]):=aa;show(aL fb (aT V0 (tC (.int 5)))) _ (upd o ql (.lst [.ref f,.ref g,l,n,.ref h])) _;generalize upd o ql (.lst [.ref f,.ref g,l,n,.ref h])=s at M ap ⊢;have u:=a5.trans (i.trans M);have y:=a4.trans (S9.trans u);have A:=S5.trans y;have as:=a0.trans A;have aC:=a7.ex as;refine⟨_,rfl,p,c,5,rfl,aC,by decide,by decide,fun r bo r0 r1 bz B=>?_⟩;have cd:ql≠p:=fun z=>by
  obtain⟨_,e⟩:=(a7.ex (a0.trans (S5.trans (a4.trans (S9.trans (a5.trans i)))))).pen;rw[<-z,bn]at e;cases e
 have bI:gg s bo:=by obtain⟨_,_,_,e,_⟩:=id aC;exact bJ.kt B e
 have all:Paired (fun(v:V) (U:Tr)=>cV K s (U.dt a) v/\A7 C a T U) [.ref f,.ref g,l,n,.ref h] [.en,.bl,.nd none (fT (a.length+1) .en),.nd none (fT (a.length+1) .bl),.nd (some w) (fT (a.length+1) .en)]:=by
  refine .cons ⟨mn (.inl (y _ _ bc)),yj (.inr rfl)⟩ (.cons ⟨mn (.inl (y _ _ bd)),yj (.inl rfl)⟩ (.cons ⟨?_,pB z2 (fun _ z=>(by cases z)) (.inr rfl)⟩ (.cons ⟨?_,pB z2 (fun _ z=>(by cases z)) (.inl rfl)⟩ (.cons ⟨?_,pB z2 (fun x e=>by injection e with e;rw[<-e];exact bQ hw) (.inr rfl)⟩ .nil))))
  ·show cV K s (eW a none (Tr.dts a _)) _;rw[Aw];exact cV.kt (ab.kt (S8.trans (S9.trans u))) _ _ b4
  ·show cV K s (eW a none (Tr.dts a _)) _;rw[Aw];exact cV.kt (ab.kt u) _ _ b6
  ·show cV K s (eW a (some w) (Tr.dts a _)) _;rw[Aw,CU];exact⟨h,_,rfl,.inl ((L.trans M) _ _ al),_,_,rfl,e_ _,_,_,rfl,e_ _,_,_,rfl,mn (.inl ((a6.trans (L.trans M)) _ _ Y)),_,_,rfl,⟨E,_,rfl,.inl (A _ _ a9),gO.all (gO.kt (ab.kt (S4.trans A)) hU)⟩,rfl⟩
 obtain⟨j5,rfl⟩:∃j:Nat,r=j:=⟨r.toNat,by omega⟩;obtain⟨v',bS⟩:∃v',[V.ref f,.ref g,l,n,.ref h][j5]?=some v':=⟨_,bM (by show j5<5;omega)⟩;obtain⟨U,_,ce,ch⟩:=Paired.getL all bS;refine⟨ql,_,j5,v',rfl,rfl,ay.of (B _ _ ap cd),aN bS,?_⟩;rw[hD];exact k v' U bo (cV.kt bI _ _ ce) ch bz ((a8.trs (ab.exBs as)).trs B)
theorem k4{α β:Type}{R:α->β->Prop}{x:α}{y:β}(h:R x y):∀{e:List α}{f:List β}{i:Nat},Paired R e f->Paired R (e.set i x) (f.set i y)
 |_,_,_,.nil=>.nil
 |_,_,0,.cons _ r=>.cons h r
 |_,_,i+1,.cons a r=>.cons a (k4 h r)
theorem GR{K:Za}{p t l1 O l3 l4 L:Addr}{ts:Ze}{b:V}{x4 x6 x7:Option V}{a:Option Str}{f:List V}{M:List Tr}{J0 J2 J4:Zb}{ds:List ao}{H:Hp}{Q:VK}{D:on}(hD:D.rt=Q)(Tt:h9 H t l1 O l3 l4 ts J0 J2 J4 ds)(A:H L=some (.lst f))(N:gO K H f (Tr.dts J2 M))(zp:M.length=J2.length+1)
  (k:∀(v:V) (C:Hp),cV K C ((Tr.nd a M).dt J2) v->ab H C->Q v C) :
  (aq (cG (tB (vk V3)) (aQ (bj (ak (tC (.str "wait")) (ak (vh K (ak (az (dF K) V1 (tC (.int 1))) (ak (wG (lN K) V5 (c_) (fz (Jz (rU fun i=>.int (-i)) (tC (.int 1))))) bp))) (aw (az (cM K) V5 (Jz (rU fun i=>.int (-i)) (tC (.int 1))))))))) (bC))
  (aQ (bj (ak (tC (.str "tell")) (ak V3 (ak (az (cM K) V5 (tC (.int 0))) (ak (vh K (aT (az (dF K) V1 (tC (.int 1))) (wG (lN K) V5 (fz (tC (.int 1))) (c_)))) bp))))))) D [some (.ref p),some (.ref t),some b,some (lg a),x4,some (.ref L),x6,x7] H:=by
 have zd:(Tr.dts J2 M).length=J2.length+1:=by rw[Tr.dts_map,ah,zp]
 have k:∀(v:V) (C:Hp),cV K C (eW J2 a (Tr.dts J2 M)) v->ab H C->Q v C:=k;generalize Tr.dts J2 M=dp at zd N k;have zv:f.length=J2.length+1:=by rw[Paired.length N,zd]
 refine⟨_,rfl,_,rfl,?_⟩;cases a with
 |none =>
  refine bG ?_;obtain⟨T,s⟩:∃v,f[J2.length]?=some v:=⟨_,bM (by omega)⟩;obtain⟨d0,E,G⟩:=Paired.getL N s;refine⟨_,rfl,t,_,1,.ref O,rfl,rfl,bT.of Tt.t,rfl,_,rfl,_,rfl,_,rfl,L,_,rfl,ay.of A,fun u I=>?_⟩;rw[show gq f none (some (-1))=f.take J2.length by rw[sy,zv];rfl];have B:ab H (upd H u (.lst (f.take J2.length))):=ab.new I;have U:upd H u (.lst (f.take J2.length)) u=some (.lst (f.take J2.length)):=aa;generalize upd H u (.lst (f.take J2.length))=w at B U ⊢;refine⟨O,u,_,_,rfl,ay.of (B _ _ Tt.a2),ay.of U,fun m g x y J n=>?_⟩;have l:=h_.1 J;have n:g.length=J2.length:=by rw[n,ah,aA];omega
  have lp:=vL (K:=K) (J2:=J2) l.2 y n (by rw[aA];omega) (Paired.takeP J2.length (gO.kt (ab.kt B) N));have Y:ab w (upd (jW w g (J2.map V.str) (f.take J2.length)) m (.tup (g.map V.ref))):=fun b o e=>by
   rw[ai (ae e x)];exact sk y _ _ e
  have z:gO K (upd (jW w g (J2.map V.str) (f.take J2.length)) m (.tup (g.map V.ref))) (g.map V.ref) (fR eM J2 (dp.take J2.length)):=gO.kt (ab.kt (ab.new (by rw[kq l.1];exact x))) lp;have d9:upd (jW w g (J2.map V.str) (f.take J2.length)) m (.tup (g.map V.ref)) m=some (.tup (g.map V.ref)):=aa;generalize upd (jW w g (J2.map V.str) (f.take J2.length)) m (.tup (g.map V.ref))=H9 at Y z d9 ⊢;have q:=B.trans Y;refine⟨_,rfl,_,rfl,L,_,-1,T,rfl,rfl,ay.of (q _ _ A),Fk zv.symm s,(by show 3<=aj;decide),fun r hr=>?_⟩;have h:ab H9 (upd H9 r (.tup [.str "wait",.ref m,T])):=ab.new hr;rw[hD];refine k _ _ ?_ (q.trans h);rw[gE E];exact⟨r,_,rfl,.inl aa,_,_,rfl,e_ _,_,_,rfl,⟨m,_,rfl,.inl (h _ _ d9),gO.all (gO.kt (ab.kt h) z)⟩,_,_,rfl,cV.kt (ab.kt (q.trans h)) _ _ G,rfl⟩
 |some a =>
  refine bt ?_;obtain⟨T,s⟩:∃v,f[0]?=some v:=⟨_,bM (by omega)⟩;obtain⟨d0,E,G⟩:=Paired.getL N s;refine⟨_,rfl,_,rfl,L,_,0,T,rfl,rfl,ay.of A,aN (j:=0) s,_,rfl,t,_,1,.ref O,rfl,rfl,bT.of Tt.t,rfl,_,rfl,_,rfl,L,_,rfl,ay.of A,fun u I=>?_⟩;rw[show gq f (some 1) none=f.drop 1 from pr _ 1];have B:ab H (upd H u (.lst (f.drop 1))):=ab.new I;have U:upd H u (.lst (f.drop 1)) u=some (.lst (f.drop 1)):=aa;generalize upd H u (.lst (f.drop 1))=w at B U ⊢;refine⟨O,u,_,_,rfl,ay.of (B _ _ Tt.a2),ay.of U,fun m g x y J n=>?_⟩;have l:=h_.1 J;have n:g.length=J2.length:=by rw[n,ah,eF];omega
  have lp:=vL (K:=K) (J2:=J2) l.2 y n (by rw[eF];omega) (Paired.dropP 1 (gO.kt (ab.kt B) N));have Y:ab w (upd (jW w g (J2.map V.str) (f.drop 1)) m (.tup (g.map V.ref))):=fun b o e=>by
   rw[ai (ae e x)];exact sk y _ _ e
  have z:gO K (upd (jW w g (J2.map V.str) (f.drop 1)) m (.tup (g.map V.ref))) (g.map V.ref) (fR eM J2 (dp.drop 1)):=gO.kt (ab.kt (ab.new (by rw[kq l.1];exact x))) lp;have d9:upd (jW w g (J2.map V.str) (f.drop 1)) m (.tup (g.map V.ref)) m=some (.tup (g.map V.ref)):=aa;generalize upd (jW w g (J2.map V.str) (f.drop 1)) m (.tup (g.map V.ref))=H9 at Y z d9 ⊢;have q:=B.trans Y;refine⟨(by show 4<=aj;decide),fun r hr=>?_⟩;have h:ab H9 (upd H9 r (.tup [.str "tell",.str a,T,.ref m])):=ab.new hr;rw[hD];refine k _ _ ?_ (q.trans h);rw[gD E];exact⟨r,_,rfl,.inl aa,_,_,rfl,e_ _,_,_,rfl,e_ _,_,_,rfl,cV.kt (ab.kt (q.trans h)) _ _ G,_,_,rfl,⟨m,_,rfl,.inl (h _ _ d9),gO.all (gO.kt (ab.kt h) z)⟩,rfl⟩
theorem HN{K:Za}{D:Nat}{a5:Sp}(d5:D<=5)(hR:∀m,D=m+1->a5=jm K m){vs:List V}{H:Hp}{Q:VK}{E:XK}(h:jm K D vs H Q E):Br K fb a5 (kb K) (ka K) (bq Q) (start CH vs) H:=by
 obtain⟨p,c,t,l1,l2,l3,l4,ts,v,T,J0,J2,J4,ds,rfl,hg,hp,Tt,m,hv,wf,k⟩:=h;have z2:=m.says4;have zs:0<J2.length:=List.length_pos_iff.2 m.says0;obtain⟨s0,rr,es,i1,i2⟩:=Fb J2 T;have a6:=hv;rw[es]at a6;obtain⟨b,xs,rfl,ht,x0,ce,rfl,e0,_⟩:=a6;have e0:x0=V.str s0:=e0;subst e0;refine⟨_,rfl,b,_,0,_,rfl,rfl,aS.sq ht,aN (j:=0) rfl,rfl,_,rfl,?_⟩;by_cases c1:T=.en
 ·rw[zzr1 (by rw[i1.2 c1])];exact bG (bG (jX rfl hp Tt m k))
 rw[zzr0 (fun z=>c1 (i1.1 (by injection z)))];refine bt ?_;refine⟨_,rfl,b,_,0,_,rfl,rfl,aS.sq ht,aN (j:=0) rfl,rfl,_,rfl,?_⟩;by_cases c2:T=.bl
 ·rw[zzr1 (by rw[i2.2 c2])];exact bG (bG (jX rfl hp Tt m k))
 rw[zzr0 (fun z=>c2 (i2.1 (by injection z)))];refine bt ?_;refine⟨_,rfl,p,c,4,rfl,hp,by decide,by decide,fun r H1 r0 r1 B I=>⟨rfl,_,rfl,?_⟩⟩;have T1:=Tt.ex hp I;have bS:gg H H1:=by obtain⟨_,_,_,e,_⟩:=id hp;exact bJ.kt I e
 have b1:=cV.kt bS _ _ hv;by_cases c3:r=0
 ·rw[zzr1 (by rw[c3])];exact bG (jX rfl B T1 m fun v' U H' h1 h2 h3 h4=>k v' U H' h1 h2 h3 (I.trs h4))
 rw[zzr0 (fun z=>c3 (by injection z))];refine bt ?_;cases T with
 |bl=>exact absurd rfl c2
 |en=>exact absurd rfl c1
 |nd a N =>
 obtain⟨w1,w2,w3⟩:=id wf;have w3:=Tr.wfs_mem.1 w3;have hg:Tr.hgts N+1<=D:=hg;obtain⟨w,rfl⟩:∃w,D=w+1:=⟨D-1,by omega⟩;cases hR w rfl;refine⟨_,rfl,.ref b,a,N,J2,rfl,b1,w1,z2,fun q f g H2 J hq a7 hU S2=>?_⟩;refine⟨q,_,rfl,bT.of hq,rfl,_,_,rfl,_,_,rfl,rfl,?_⟩;have al:=B.ex S2;have T2:=T1.same S2;have zu:g.length=J2.length+1:=by rw[Paired.length hU,Tr.dts_map,ah,w1]
 have np:f≠p:=(B.nep J).symm;have nc:f≠c:=(B.nec J).symm;have h0:∀{b:Addr}{o:HO},H b=some o->b≠p->b≠f:=fun{b o} e u z=>by
  have:=I _ _ e u;rw[z,J]at this;cases this
 refine⟨_,rfl,_,rfl,.inl ⟨f,_,rfl,.inl (ay.of a7),p,c,g.length,rfl,al,by omega,by omega,fun a8 H3 a0 a1 b2 a9=>?_⟩⟩;have ba:=a9 _ _ a7 np;refine⟨_,rfl,_,rfl,.inl ⟨f,_,rfl,.inl (ay.of ba),p,c,g.length,rfl,b2,by omega,by omega,fun ot H4 o0 o1 b3 bc=>?_⟩⟩;have b4:=bc _ _ ba np;refine⟨_,rfl,p,c,3,rfl,b3,by decide,by decide,fun r3 G _ _ an bd=>⟨rfl,_,rfl,?_⟩⟩;have L:=bd _ _ b4 np;have x:=a9.trs (bc.trs bd);have T5:=T2.ex al x;have bf:gg H2 G:=by obtain⟨_,_,_,e,_⟩:=id al;exact bJ.kt x e
 have O:=gO.kt bf hU;obtain⟨i,rfl⟩:∃i:Nat,a8=i:=⟨a8.toNat,by omega⟩;obtain⟨j,rfl⟩:∃j:Nat,ot=j:=⟨ot.toNat,by omega⟩;obtain⟨A,ap⟩:∃v,g[i]?=some v:=⟨_,bM (by omega)⟩;obtain⟨s,bh⟩:∃v,g[j]?=some v:=⟨_,bM (by omega)⟩;obtain⟨ti,M⟩:∃v,N[i]?=some v:=⟨_,bM (by omega)⟩;obtain⟨tj,bi⟩:∃v,N[j]?=some v:=⟨_,bM (by omega)⟩;have di:(Tr.dts J2 N)[i]?=some (ti.dt J2):=by rw[Tr.dts_map,cC,M];rfl
 have dj:(Tr.dts J2 N)[j]?=some (tj.dt J2):=by rw[Tr.dts_map,cC,bi];rfl
 have ri:cV K G (ti.dt J2) A:=by
  obtain⟨d,e,h⟩:=Paired.getL O ap;rw[di]at e;injection e with e;rw[e];exact h
 have rj:cV K G (tj.dt J2) s:=by
  obtain⟨d,e,h⟩:=Paired.getL O bh;rw[dj]at e;injection e with e;rw[e];exact h
 have bn:∀(as:List V) (Y:List Tr) (l:Hp) {x4:Option V},A7 J0 J2 (.nd a N) (.nd a Y)->gO K l as (Tr.dts J2 Y)->gP l p c->h9 l t l1 l2 l3 l4 ts J0 J2 J4 ds->l f=some (.lst as)->(∀b o,H2 b=some o->b≠p->b≠f->l b=some o)->Y.length=J2.length+1 ->
   (aq (cG (tB (vk V3)) (aQ (bj (ak (tC (.str "wait")) (ak (vh K (ak (az (dF K) V1 (tC (.int 1))) (ak (wG (lN K) V5 (c_) (fz (Jz (rU fun i=>.int (-i)) (tC (.int 1))))) bp))) (aw (az (cM K) V5 (Jz (rU fun i=>.int (-i)) (tC (.int 1))))))))) (bC))
   (aQ (bj (ak (tC (.str "tell")) (ak V3 (ak (az (cM K) V5 (tC (.int 0))) (ak (vh K (aT (az (dF K) V1 (tC (.int 1))) (wG (lN K) V5 (fz (tC (.int 1))) (c_)))) bp))))))) (bq Q) [some (.ref p),some (.ref t),some (.ref b),some (lg a),x4,some (.ref f),some (.int i),some (.int j)] l:=by
  intro as Y l x4 hb b5 aC T6 y C zl;refine GR rfl T6 y b5 zl fun v' H7 b6 S7=>k v' _ H7 b6 hb (aC.ex S7) fun b o e u=>S7 _ _ (C _ _ (S2 _ _ (I _ _ e u)) u (h0 e u))
 have bo:∀b o,H2 b=some o->b≠p->b≠f->G b=some o:=fun b o e u _=>x _ _ e u;by_cases c4:r3=0
 ·rw[zzr1 (by rw[c4])];refine bG ?_;refine⟨_,rfl,_,rfl,f,_,j,s,rfl,rfl,ay.of L,aN bh,_,rfl,_,rfl,f,_,i,A,rfl,rfl,ay.of L,aN ap,(by show 2<=aj;decide),fun sw b7=>?_⟩;have S6:ab G (upd G sw (.tup [s,A])):=ab.new b7;have bz:upd G sw (.tup [s,A]) sw=some (.tup [s,A]):=aa;generalize upd G sw (.tup [s,A])=l at S6 bz ⊢;have y:=S6 _ _ L;refine⟨sw,_,rfl,bT.of bz,rfl,_,_,rfl,_,rfl,_,rfl,f,g,i,i,rfl,rfl,y,Ar (by omega),_,_,rfl,_,rfl,_,rfl,f,g.set i s,j,j,rfl,rfl,aa,Ar (by rw[kM];omega),rfl,?_⟩;have a4:gg l (upd l f (.lst (g.set i s))):=dO y;have b8:gg (upd l f (.lst (g.set i s))) (upd (upd l f (.lst (g.set i s))) f (.lst ((g.set i s).set j A))):=dO aa;have bI:gg G (upd (upd l f (.lst (g.set i s))) f (.lst ((g.set i s).set j A))):=fun b xs e=>b8 _ _ (a4 _ _ (ab.kt S6 _ _ e));have T8:h9 (upd (upd l f (.lst (g.set i s))) f (.lst ((g.set i s).set j A))) t l1 l2 l3 l4 ts J0 J2 J4 ds:=by
   have b9:h9 (upd (upd l f (.lst (g.set i s))) f (.lst ((g.set i s).set j A))) t l1 l2 l3 l4 ts J0 J2 J4 ds:=(T1.ex B (H':=upd (upd l f (.lst (g.set i s))) f (.lst ((g.set i s).set j A))) fun b o e u=>by
    have n:b≠f:=fun z=>by rw[z,J]at e;cases e
    rw[ai n,ai n];exact S6 _ _ (x _ _ (S2 _ _ e) u))
   exact b9
  refine bn ((g.set i s).set j A) ((N.set i tj).set j ti) _ (GS wf M bi) ?_ (gP.upd (gP.upd (an.ex S6) np.symm nc.symm) np.symm nc.symm) T8 aa (fun b o e u nq=>?_) (by rw[kM,kM];exact w1)
  ·rw[Tr.dts_map,yG,yG,<-Tr.dts_map];exact gO.kt bI (k4 (R:=fun v d=>cV K G d v) ri (k4 (R:=fun v d=>cV K G d v) rj O))
  ·rw[ai nq,ai nq];exact S6 _ _ (bo b o e u nq)
 ·rw[zzr0 (fun z=>c4 (by injection z))];refine bt ?_;have ch:=iI (bQ M);refine⟨_,rfl,_,rfl,_,rfl,_,rfl,f,_,i,A,rfl,rfl,ay.of L,aN ap,p,c,t,l1,l2,l3,l4,ts,A,ti,J0,J2,J4,ds,rfl,by omega,an,T5,m,ri,w3 ti (bQ M),fun v6 U l cb bU aC C=>?_⟩;have y:=C _ _ L np;have cd:gg G l:=by obtain⟨_,_,_,e,_⟩:=id an;exact bJ.kt C e
  refine⟨_,rfl,_,rfl,f,g,i,i,rfl,rfl,y,Ar (by omega),?_⟩;have a4:gg l (upd l f (.lst (g.set i v6))):=dO y;have T7:h9 (upd l f (.lst (g.set i v6))) t l1 l2 l3 l4 ts J0 J2 J4 ds:=T1.ex B fun b o e u=>by
   have n:b≠f:=fun z=>by rw[z,J]at e;cases e
   rw[ai n];exact C _ _ (x _ _ (S2 _ _ e) u) u
  refine bn (g.set i v6) (N.set i U) _ (GU wf M bU) ?_ (gP.upd aC np.symm nc.symm) T7 aa (fun b o e u nq=>?_) (by rw[kM];exact w1)
  ·rw[Tr.dts_map,yG,<-Tr.dts_map];exact gO.kt a4 (k4 (R:=fun v d=>cV K l d v) cb (gO.kt cd O))
  ·rw[ai nq];exact C _ _ (bo b o e u nq) u
open Builtin.Int (intBits)
inductive kR(K:Za)(D:Nat)(vs:List V)(H:Hp)(Q:VK)(E:XK):Prop
 |mk (X:TK×V->Prop) (hX:Lp X) (H0:Hp) (t l1 l2 l3 l4 kd fu:Addr) (ts:Ze) (kv:List (TK×V)) (n d:Nat) (tv:V) (T:Tr) (face J0 J2 J4:Zb) (ds:List ao):(vs=[.ref t,.ref kd,.ref fu,.int (d:Nat),tv])->(d<=D)->(h9 H0 t l1 l2 l3 l4 ts J0 J2 J4 ds)->(cK J0 J2 J4 ds)->(H0 kd=none)->(ab H0 H)->(eL X H kd kv J0 J2 J4 ds n)->(H fu=some (.tup (face.map V.str)))->(face.length<=1000)->(cV K H (T.dt J2) tv)->(T.wf J0 J2)->(T.hgt<=6)->(n+uB d<=8000000) ->
  (∀(kv':List (TK×V)) (H':Hp),eL X H' kd kv' J0 J2 J4 ds (n+uB d)->bJ kd H H'->Q (vI (numM J0 J2 J4 ds d face T)) H')->kR K D vs H Q E
theorem B5{K:Za}{σ:L2.St}{H:Hp}{Q:VK}{D:on}{g:V}{T L:Tr}{a:Zb}{w:Str}(h:D.rt=Q)(p:σ[4]?=some (some g))(q:cV K H (T.dt a) g)(s:T.hgt<=6)(i:T.dt a=fH [w]↔T=L)(k:∀j,ab H j->∀r:Option Int,(T=L->r=some 0)->(T≠L->r=none)->Q (vI r) j):
  (aQ (az (cM K) (cT (aT (tC .non) (tC (.int 0)))) (gk Ey (ak (az (z6 K) V4 (bj (aw (tC (.str w))))) bp)))) D σ H:=by
 refine⟨(by show 2<=aj;decide),fun l t=>⟨_,p,(by show 1<=aj;decide),fun e m=>?_⟩⟩;have S:ab H (upd (upd H l (.lst [.non,.int 0])) e (.tup [.str w])):=(ab.new t).trans (ab.new m);have f:upd (upd H l (.lst [.non,.int 0])) e (.tup [.str w]) l=some (.lst [.non,.int 0]):=kp aa m;have n:upd (upd H l (.lst [.non,.int 0])) e (.tup [.str w]) e=some (.tup (([w]:Sg).map V.str)):=aa;generalize upd (upd H l (.lst [.non,.int 0])) e (.tup [.str w])=o at S f n ⊢;refine⟨T.dt a,fH [w],cV.dIn _ _ (cV.kt (ab.kt S) _ _ q),bv (bT.of n),aD (vV a 6 T s) (by decide),by rw[bA];decide,.inr ⟨_,rfl,?_⟩⟩;by_cases c:T=L
 ·rw[zzr1 (i.2 c)];refine⟨l,_,1,.int 0,rfl,rfl,ay.of f,rfl,?_⟩;rw[h];exact k o S (some 0) (fun _=>rfl) fun z=>absurd c z
 ·rw[zzr0 (fun z=>c (i.1 z))];refine⟨l,_,0,.non,rfl,rfl,ay.of f,rfl,?_⟩;rw[h];exact k o S none (fun z=>absurd z c) fun _=>rfl
theorem Jl(a b:Option Str):decide (lg a=lg b)=decide (a=b):=by
 by_cases h:a=b
 ·rw[h,zzr1 rfl,zzr1 rfl]
 ·rw[zzr0 h,zzr0];intro z;cases a<;>cases b
  ·exact h rfl
  ·cases z
  ·cases z
  ·injection z with z;exact h (by rw[z])
theorem GW(a b:Option Str):J9 (lg a) (lg b)=true:=by cases a<;>cases b<;>rfl
theorem Kf{K:Za}{D:Nat}{b6:Sp}(d5:D<=4)(hR:∀m,D=m+1->b6=kR K m){vs:List V}{H:Hp}{Q:VK}{E:XK}(h:kR K D vs H Q E):zo K (mC K) sp_product my b6 (kh K) (jj K 4) (kb K) (bq Q) (start AU vs) H:=by
 obtain⟨X,hX,H0,t,l1,l2,l3,l4,kd,fu,ts,kv,n,d,tv,T,f,J0,J2,J4,ds,rfl,hD,Tt,m,h0,S0,Dy,hf,hz,hv,wf,hg,hn,k⟩:=h;have z1:=m.asks4;have z2:=m.says4;have z3:=m.rooms26;refine⟨_,rfl,(by show 0<=aj;decide),fun e he=>⟨fH f,fH [],bv (bT.of (kp hf he)),bv (bT.of aa),by rw[bA];decide,by rw[bA];decide,_,rfl,?_⟩⟩;rw[jM];have Se:ab H (upd H e (.tup [])):=ab.new he;generalize upd H e (.tup [])=He at Se ⊢;have De:=Dy.up Se;have ap:=cV.kt (ab.kt Se) _ _ hv;have b7:∀(H':Hp),ab He H'->∀r,numM J0 J2 J4 ds d f T=r->Q (vI r) H':=fun H' S r e=>by
  have:=k kv H' ((De.up S).more (by omega)) (ab.exBs (Se.trans S));rw[e]at this;exact this
 by_cases B:f=[]
 ·rw[zzr1 B];refine bG (B5 (L:=.bl) (σ:=[some (.ref t),some (.ref kd),some (.ref fu),some (.int (d:Nat)),some tv,none,none,none,none,none,none,none,none,none,none]) rfl rfl ap hg ⟨Ci,fun z=>by rw[z];rfl⟩ fun H' S r r1 r2=>b7 H' S r ?_);subst B;by_cases c:T=.bl
  ·rw[r1 c,c,Af]
  ·rw[r2 c,EN c]
 rw[zzr0 B];refine bt ?_;obtain⟨s0,rr,es,i1,i2⟩:=Fb J2 T;have b8:=ap;rw[es]at b8;obtain⟨b,xs,rfl,ht,x0,ek,rfl,e0,_⟩:=b8;have e0:x0=V.str s0:=e0;subst e0;have l:(T=.en∨T=.bl∨d=0)->(aQ (az (cM K) (cT (aT (tC .non) (tC (.int 0)))) (gk Ey (ak (az (z6 K) V4 (bj (aw (tC (.str "end"))))) bp)))) (bq Q) [some (.ref t),some (.ref kd),some (.ref fu),some (.int (d:Nat)),some (.ref b),none,none,none,none,none,none,none,none,none,none] He:=fun hc=>by
  refine B5 (L:=.en) rfl rfl ap hg ⟨Ch,fun z=>by rw[z];rfl⟩ fun H' S r r1 r2=>b7 H' S r ?_;by_cases c:T=.en
  ·rw[r1 c,c,Ae B]
  ·rw[r2 c];rcases hc with hc|hc|hc
   ·exact absurd hc c
   ·rw[hc];unfold numM;rw[if_neg B]
   ·rw[hc];exact BT B c
 refine⟨_,rfl,b,_,0,_,rfl,rfl,aS.sq ht,aN (j:=0) rfl,rfl,_,rfl,?_⟩;by_cases c1:T=.en
 ·rw[zzr1 (by rw[i1.2 c1])];exact bG (bG (l (.inl c1)))
 rw[zzr0 (fun z=>c1 (i1.1 (by injection z)))];refine bt ?_;refine⟨_,rfl,b,_,0,_,rfl,rfl,aS.sq ht,aN (j:=0) rfl,rfl,_,rfl,?_⟩;by_cases c2:T=.bl
 ·rw[zzr1 (by rw[i2.2 c2])];exact bG (bG (l (.inr (.inl c2))))
 rw[zzr0 (fun z=>c2 (i2.1 (by injection z)))];refine bt ?_;refine⟨_,rfl,rfl,_,rfl,?_⟩
 match d,hD,hn,k,l with
 |0,_,_,_,l=>exact bG (l (.inr (.inr rfl)))
 |d+1,hD,hn,k,l =>
 rw[zzr0 (by intro z;injection z with z;omega)];refine bt ?_;cases T with
 |bl=>exact absurd rfl c2
 |en=>exact absurd rfl c1
 |nd a C =>
 obtain⟨w1,w2,w3⟩:=id wf;have w3:=Tr.wfs_mem.1 w3;have el:Tr.hgts C+1<=6:=hg;obtain⟨w,rfl⟩:∃w,D=w+1:=⟨D-1,by omega⟩;cases hR w rfl;have nb:uB (d+1)=9+30 * (1+lB d)+5 * uB d:=rfl;refine⟨_,rfl,.ref b,a,C,J2,rfl,ap,w1,z2,fun q pl us H1 _ hq b9 hU S1=>?_⟩;refine⟨q,_,rfl,bT.of hq,rfl,_,_,rfl,_,_,rfl,rfl,?_⟩;have bd:=Se.trans S1;have D1:=De.up S1;have cb:pl≠kd:=fun z=>by have:=D1.hkd;rw[<-z,b9]at this;cases this
 refine⟨_,rfl,_,rfl,_,rfl,X,hX,H0,t,l1,l2,l3,l4,kd,fu,ts,kv,n,f,J0,J2,J4,ds,rfl,Tt,m,h0,S0.trans bd,D1,bd _ _ hf,hz,by omega,fun al c6 H2 c8 D2 dc=>⟨(by show 1<=aj;decide),fun nl di=>?_⟩⟩;have za:(askedF J0 J4 ds f).length<=4:=aD (dk _ _) z1;have S3:ab H2 (upd H2 nl (.lst [.non])):=ab.new di;have cd:upd H2 nl (.lst [.non]) nl=some (.lst [.non]):=aa;generalize upd H2 nl (.lst [.non])=H3 at S3 cd ⊢;refine⟨al,nl,_,_,rfl,rfl,S3 _ _ c8,cd,by rw[ah];exact cW (ar (by show _+1<=1000;omega)),fun cl dj=>?_⟩;have S4:ab H3 (upd H3 cl (.lst ((askedF J0 J4 ds f).map V.str++[.non]))):=ab.new dj;have G:upd H3 cl (.lst ((askedF J0 J4 ds f).map V.str++[.non])) cl=some (.lst (((askedF J0 J4 ds f).map some++[none]).map lg)):=by
  rw[aa,ax,jR];rfl
 generalize upd H3 cl (.lst ((askedF J0 J4 ds f).map V.str++[.non]))=H4 at S4 G ⊢;have D4:=(D2.up S3).up S4;have a4:bJ kd H1 H4:=dc.trs (ab.exBs (S3.trans S4));have ce:bJ kd H H4:=(ab.exBs bd).trs a4;have dm:cl≠kd:=fun z=>by have:=D4.hkd;rw[<-z,G]at this;cases this
 have eN:numM J0 J2 J4 ds (d+1) f (.nd a C)=match fE (prodA J0 J2 J4 ds d f) ((askedF J0 J4 ds f).map some++[none]) a 1 with
  |none=>none
  |some s=>(db (fun g=>cntM J0 J2 J4 ds d (behF J4 ds f g)) (fun g p=>numM J0 J2 J4 ds d (behF J4 ds f g) p) ((aP J2 a).zip C) 0).map (s+·):=by
  conv=>lhs;unfold numM
  exact if_neg B
 rw[eN]at k;generalize hA:((askedF J0 J4 ds f).map some++[none]:List (Option Str))=A at G k;have zA:A.length<=5:=by rw[<-hA,aO,ah];show _+1<=5;omega
 refine⟨cl,rfl,⟨_,ay.of G⟩,?_⟩
 let dn:Nat->L2.St->Hp->Prop:=fun i σ H'=>NE4 fun(bf:List (TK×V)) (acc:Int) (x8 x9:Option V)=>M9 (σ=[some (.ref t),some (.ref kd),some (.ref fu),some (.int ((d+1:Nat))),some (.ref b),some (lg a),some (.ref pl),some (.int acc),x8,x9,none,none,none,none,none]) (fE (prodA J0 J2 J4 ds d f) A a 1=fE (prodA J0 J2 J4 ds d f) (A.drop i) a acc) (eL X H' kd bf J0 J2 J4 ds (n+4+i * (5 * (1+lB d)))) (bJ kd H4 H')
 refine cN (xs:=A.map lg) dn ⟨c6,1,_,_,rfl,rfl,D4.more (fo _ _),bJ.refl _ _⟩ (fun i σ H' _ zq=>by obtain⟨_,_,_,_,_,_,_,ex⟩:=zq;exact ay.of (ex _ _ G dm)) ?_ ?_;rotate_left
 ·rintro σ H5 ⟨bh,acc,x8,x9,rfl,I,D5,J⟩;rw[ah]at D5 I;rw[oH]at I;have I:_=none:=I;have m5:A.length * (5 * (1+lB d))<=5 * (5 * (1+lB d)):=c7 _ zA;have:=k bh H5 (D5.more (by omega)) (ce.trs J);rw[I]at this;exact this
 rintro i v σ H5 hi ⟨bh,acc,x8,x9,rfl,I,D5,J⟩;rw[cC]at hi;obtain⟨o,ho,rfl⟩:=kH.1 hi;have il:i<A.length:=(cj.1 ho).1;have ed:A.drop i=o::A.drop (i+1):=by
  obtain⟨h1,h2⟩:=cj.1 ho;rw[l6 h1,h2]
 rw[ed]at I;have M:=ce.trs J;have ch:=a4.trs J;have dp:(i+1) * (5 * (1+lB d))=i * (5 * (1+lB d))+5 * (1+lB d):=fk _ _;have cm:(i+1) * (5 * (1+lB d))<=5 * (5 * (1+lB d)):=c7 _ (by omega);refine⟨_,rfl,_,rfl,_,rfl,_,rfl,_,rfl,X,hX,H0,t,l1,l2,l3,l4,kd,fu,ts,o,bh,_,d,f,J0,J2,J4,ds,rfl,by omega,Tt,m,h0,bJ.sameH S0 h0 M,D5,bJ.ktd Dy.hkd M _ _ hf,hz,by omega,fun sl cp H6 as D6 bn=>?_⟩;have a5:=M.trs bn;have a6:=ch.trs bn;have a7:=a6 _ _ b9 cb;refine⟨_,rfl,_,rfl,GW _ _,_,rfl,?_⟩;rw[Jl];by_cases co:o=a;rotate_left
 ·rw[zzr0 co];refine bt ?_;refine⟨_,rfl,_,rfl,sl,_,bB d,rfl,as,fun z dr=>?_,by have:=yk d (by omega);omega,by rw[ah,cq];omega,_,_,rfl,rfl,cp,_,some (lg o),some (.ref sl),rfl,?_,D6.more (by omega),J.trs bn⟩
  ·obtain⟨g,_,rfl⟩:=aV.1 dr;exact jw z1 z2 d _
  ·rw[I]
   conv=>lhs;unfold fE
   rw[if_neg co];rfl
 subst co;rw[zzr1 rfl];refine bG ?_;have I:fE (prodA J0 J2 J4 ds d f) A o 1=some acc:=by
  rw[I];unfold fE;rw[if_pos rfl]
 rw[I]at k;have dx:ab H0 H6:=bJ.sameH S0 h0 a5;refine⟨_,rfl,_,rfl,t,l1,l2,l3,l4,ts,o,J0,J2,J4,ds,rfl,Tt.same dx,z2,fun gl ss H7 bz hS S7=>⟨_,rfl,_,rfl,gl,sl,pl,rfl,⟨_,ay.of bz⟩,⟨_,ay.of (S7 _ _ as)⟩,⟨_,ay.of (S7 _ _ a7)⟩,?_⟩⟩;have D7:=D6.up S7;have N:=a5.trs (ab.exBs S7);have ct:gg H1 H7:=fun b xs e=>S7 _ _ (bJ.ktd D1.hkd a6 _ _ e);have zk:=cq J2 o;have zs:ss.length=C.length:=by rw[Paired.length hS,zk,w1]
 have zu:us.length=C.length:=by rw[Paired.length hU,Tr.dts_map,ah]
 have dy:gl≠kd:=fun z=>by have:=D7.hkd;rw[<-z,bz]at this;cases this
 have dK:sl≠kd:=fun z=>by have:=D6.hkd;rw[<-z,as]at this;cases this
 have zL:((aP J2 o).zip C).length=C.length:=by rw[kG];omega
 generalize hL:(aP J2 o).zip C=L at k zL;have D7:=D7.more (m:=n+4+25 * (1+lB d)) (by omega);clear dp cm il zA za eN
 let dT:Nat->L2.St->Hp->Prop:=fun i σ H'=>NE6 fun(bf:List (TK×V)) (num:Int) (bI bS bU b1:Option V)=>Jr (σ=[some (.ref t),some (.ref kd),some (.ref fu),some (.int ((d+1:Nat))),some (.ref b),some (lg o),some (.ref pl),some (.int acc),some (lg o),some (.ref sl),some (.int num),bI,bS,bU,b1]) (db (fun g=>cntM J0 J2 J4 ds d (behF J4 ds f g)) (fun g p=>numM J0 J2 J4 ds d (behF J4 ds f g) p) L 0=db (fun g=>cntM J0 J2 J4 ds d (behF J4 ds f g)) (fun g p=>numM J0 J2 J4 ds d (behF J4 ds f g) p) (L.drop i) num) (intBits num<=i * (bB d+1)) (eL X H' kd bf J0 J2 J4 ds (n+4+25 * (1+lB d)+i * (1+uB d))) (bJ kd H7 H')
 refine IY (xs:=ss.map V.ref) (ys:=((aP J2 o).map fun g=>cntM J0 J2 J4 ds d (behF J4 ds f g)).map V.int) (zs:=us) (by rw[ah,ah,ah,zs,zk,w1]) (by rw[ah];omega) dT ⟨cp,0,_,_,_,_,rfl,rfl,(by rw[Nat.zero_mul];decide),D7.more (fo _ _),bJ.refl _ _⟩ (fun i σ H' _ zq=>by obtain⟨_,_,_,_,_,_,_,_,_,_,ex⟩:=zq;exact⟨ay.of (ex _ _ bz dy),ay.of (ex _ _ (S7 _ _ as) dK),ay.of (ex _ _ (S7 _ _ a7) cb)⟩) ?_ ?_
 ·rintro j x y z σ H8 q' hx hy dV ⟨b2,num,bI,bS,bU,b1,rfl,eh,ba,D8,b3⟩ d0;obtain⟨su,d1,rfl⟩:=bV hx;obtain⟨g,cv,d2⟩:=Paired.getL hS d1;obtain rfl:y=.int (cntM J0 J2 J4 ds d (behF J4 ds f g)):=by
   rw[cC,cC,cv]at hy;injection hy with hy;exact hy.symm
  obtain⟨dd,c0,d3⟩:=Paired.getL hU dV;rw[Tr.dts_map,cC]at c0;obtain⟨pt,aC,rfl⟩:=kH.1 c0;have jl:j<C.length:=(cj.1 aC).1;have d4:L[j]?=some (g,pt):=by rw[<-hL];exact yt.2 ⟨cv,aC⟩
  have ed:L.drop j=(g,pt)::L.drop (j+1):=by
   obtain⟨h1,h2⟩:=cj.1 d4;rw[l6 h1,h2]
  rw[ed]at eh;have wp:=w3 pt (bQ aC);have d8:pt.hgt<=6:=by have:=iI (bQ aC);omega
  generalize hc:cntM J0 J2 J4 ds d (behF J4 ds f g)=cs at *;have S9:ab H8 (upd H8 q' (.tup [.ref su,.int cs,z])):=ab.new d0;have q9:upd H8 q' (.tup [.ref su,.int cs,z]) q'=some (.tup [.ref su,.int cs,z]):=aa;generalize upd H8 q' (.tup [.ref su,.int cs,z])=H9 at S9 q9 ⊢;have D9:=D8.up S9;have O:=b3.trs (ab.exBs S9);have a8:gg H7 H9:=bJ.ktd D7.hkd O;have U:=N.trs O;have ej:(j+1) * (1+uB d)=j * (1+uB d)+(1+uB d):=fk _ _;have d9:(j+1) * (1+uB d)<=5 * (1+uB d):=c7 _ (by omega);refine⟨q',_,rfl,bT.of q9,rfl,_,_,rfl,_,_,rfl,_,_,rfl,rfl,?_⟩;refine⟨_,rfl,_,rfl,_,rfl,_,rfl,_,rfl,_,rfl,X,hX,H0,t,l1,l2,l3,l4,kd,fu,su,ts,b2,_,g,f,J0,J2,J4,ds,rfl,Tt,m,h0,bJ.sameH S0 h0 U,D9,bJ.ktd Dy.hkd U _ _ hf,a8 _ _ d2,hz,by omega,fun u c3 em hu eb Y=>?_⟩;have b5:=U.trs Y;refine⟨_,rfl,_,_,rfl,rfl,_,rfl,X,hX,H0,t,l1,l2,l3,l4,kd,u,ts,c3,_,d,z,pt,behF J4 ds f g,J0,J2,J4,ds,?_,by omega,Tt,m,h0,bJ.sameH S0 h0 b5,eb,hu,jx (by omega) hz,cV.kt (fun b xs e=>bJ.ktd D9.hkd Y _ _ (a8 _ _ (ct _ _ e))) _ _ d3,wp,d8,by omega,fun a9 ec c4 c5=>?_⟩
  ·show[V.ref t,V.ref kd,V.ref u,V.int (((d+1:Nat):Int)-1),_]=_;rw[show(((d+1:Nat):Int)-1)=(d:Nat) by omega]
  have an:=O.trs (Y.trs c5);refine⟨_,rfl,_,rfl,?_⟩;cases en:numM J0 J2 J4 ds d (behF J4 ds f g) pt with
  |none =>
   have er:db (fun g=>cntM J0 J2 J4 ds d (behF J4 ds f g)) (fun g p=>numM J0 J2 J4 ds d (behF J4 ds f g) p) ((g,pt)::L.drop (j+1)) num=none:=by
    rw[db];show(match numM J0 J2 J4 ds d (behF J4 ds f g) pt with|none=>none|some a0=>_)=none
    rw[en]
   refine bG ?_;have:=k a9 ec (c4.more (by omega)) (N.trs an);rw[eh,er]at this;exact this
  |some a0 =>
   have er:db (fun g=>cntM J0 J2 J4 ds d (behF J4 ds f g)) (fun g p=>numM J0 J2 J4 ds d (behF J4 ds f g) p) ((g,pt)::L.drop (j+1)) num=db (fun g=>cntM J0 J2 J4 ds d (behF J4 ds f g)) (fun g p=>numM J0 J2 J4 ds d (behF J4 ds f g) p) (L.drop (j+1)) (num * cs+a0):=by
    rw[db];show(match numM J0 J2 J4 ds d (behF J4 ds f g) pt with|none=>none|some a0=>_)=_
    rw[en,hc]
   obtain⟨o0,o1⟩:=sh J0 J2 J4 ds d _ pt a0 en wp;have bc:=jw (J0:=J0) (J2:=J2) (J4:=J4) (ds:=ds) z1 z2 d (behF J4 ds f g);have bo:=ye o0 (uF o1) bc;rw[hc]at bc;have b4:=yk d (by omega);have bi:j * (bB d+1)<=4 * (bB d+1):=c7 _ (by omega);refine bt ⟨_,rfl,_,rfl,_,_,rfl,rfl,yB ba bc (by omega),_,rfl,_,_,rfl,rfl,a9,_,_,_,_,_,rfl,by rw[eh,er],?_,c4.more (by omega),an⟩;have h1:=uG (yC ba bc) bo;rw[fk];omega
 ·rintro σ H8 ⟨b2,num,bI,bS,bU,b1,rfl,eh,ba,D8,b3⟩;rw[ah,zs]at eh D8;rw[<-zL,oH]at eh;have eh:_=some num:=eh;have m5:C.length * (1+uB d)<=5 * (1+uB d):=c7 _ (by omega);have:=k b2 H8 (D8.more (by omega)) (N.trs b3);rw[eh]at this;exact⟨_,rfl,_,rfl,_,_,rfl,rfl,this⟩
theorem at43{r:Int}(a:0<=r)(e:r<4):∃n:Nat,AJ [V.int 4,.int 3,.int 2,.int 1] r=some (.int n)/\n<=4:=by
 have:r=0∨r=1∨r=2∨r=3:=by omega
 rcases this with rfl|rfl|rfl|rfl
 ·exact⟨4,rfl,by decide⟩
 ·exact⟨3,rfl,by decide⟩
 ·exact⟨2,rfl,by decide⟩
 ·exact⟨1,rfl,by decide⟩
theorem Cb{a:Addr}{H f:Hp}(e:bJ a H f):ab (io H a) (io f a):=fun b o q=>by
 by_cases c:b=a
 ·rw[c,gJ]at q;cases q
 ·rw[fh c]at q ⊢;exact e _ _ q c
structure Hj(C p c t l1 l2 l3 l4 kd f M:Addr)(ts:Ze)(J0 J2 J4 F:Zb)(ds:List ao)(kv:List (TK×V))(n:Nat)(H:Hp):Prop where
 pen:gP H p c
 nk:kd≠p
 nc:c≠kd
 told:h9 (io H kd) t l1 l2 l3 l4 ts J0 J2 J4 ds
 mach:bY C (io H kd) M J0 J2 J4 ds
 face:H f=some (.tup (F.map V.str))
 kn:eL Mg H kd kv J0 J2 J4 ds n
section
variable{C p c t l1 l2 l3 l4 kd f M:Addr}{ts:Ze}{J0 J2 J4 F:Zb}{ds:List ao}{kv kv':List (TK×V)}{n n':Nat}{H H':Hp}
theorem Hj.same(h:Hj C p c t l1 l2 l3 l4 kd f M ts J0 J2 J4 F ds kv n H)(S:ab H H'):Hj C p c t l1 l2 l3 l4 kd f M ts J0 J2 J4 F ds kv n H':=⟨h.pen.ex S,h.nk,h.nc,h.told.same (Ca S),h.mach.same (Ca S),S _ _ h.face,h.kn.up S⟩
theorem Hj.exp(h:Hj C p c t l1 l2 l3 l4 kd f M ts J0 J2 J4 F ds kv n H)(a:gP H' p c)(ex:bJ p H H'):Hj C p c t l1 l2 l3 l4 kd f M ts J0 J2 J4 F ds kv n H':=by
 have kt:gg H H':=by obtain⟨g,e⟩:=h.pen.lst;exact ex.kt e
 exact⟨a,h.nk,h.nc,h.told.ex (h.pen.hid2 h.nk.symm h.nc) (xR ex),h.mach.ex (h.pen.hid2 h.nk.symm h.nc) (xR ex),kt _ _ h.face,h.kn.kt (ex _ _ h.kn.hkd h.nk) kt⟩
theorem Hj.exk(h:Hj C p c t l1 l2 l3 l4 kd f M ts J0 J2 J4 F ds kv n H)(D:eL Mg H' kd kv' J0 J2 J4 ds n')(ex:bJ kd H H'):Hj C p c t l1 l2 l3 l4 kd f M ts J0 J2 J4 F ds kv' n' H' :=
 ⟨(h.pen.hid2 h.nk.symm h.nc).ex (bJ.sameH gK (gJ _ _) ex),h.nk,h.nc,h.told.same (Cb ex),h.mach.same (Cb ex),bJ.ktd h.kn.hkd ex _ _ h.face,D⟩
end
theorem Gk(a b:Option Int):J9 (vI a) (vI b)=true:=by cases a<;>cases b<;>rfl
inductive sp_law43(K:Za)(vs:List V)(H:Hp)(Q:VK)(E:XK):Prop
 |mk (a:Addr) (ns:List Int):(vs=[.ref a])->(ay K H a (ns.map V.int))->(ns.length<=63)->(∀H',Q (.bl true) H')->sp_law43 K vs H Q E
theorem HL{K:Za}{C:Addr}{vs:List V}{H:Hp}{Q:VK}{E:XK}(h:sp_law43 K vs H Q E):JN K (qe K C) (kR K 4) fb (jm K 5) (nh K C) zT (kS K 4) qp (kQ C) qi (um K) (bq Q) (start Fs vs) H:=by
 obtain⟨a,ns,rfl,hs,hn,k⟩:=h;refine⟨_,rfl,a,ns,rfl,hs,hn,fun p c H1 _ ba S1=>?_⟩;refine⟨_,rfl,_,rfl,p,c,2,rfl,ba,by decide,by decide,fun r H2 r0 r2 bc b9=>?_⟩;refine⟨p,c,6,r,rfl,bc,by decide,by decide,r0,by omega,fun t y z A B D g J2 J4 ds H3 T3 m cb cd bf ce=>?_⟩;have z3:=m.rooms26;have z2:=m.says4;refine⟨_,rfl,t,y,z,A,B,D,g,J2,J4,ds,rfl,T3,m,fun M H4 M4 S4=>?_⟩;have T4:=T3.same S4;have al:=bf.ex S4;refine⟨(by show 4<=aj;decide),fun dl an=>?_⟩;have np:p≠dl:=al.nep an;have S5:ab H4 (upd H4 dl (.lst [.int 4,.int 3,.int 2,.int 1])):=ab.new an;have ap:upd H4 dl (.lst [.int 4,.int 3,.int 2,.int 1]) dl=some (.lst [.int 4,.int 3,.int 2,.int 1]):=aa;generalize upd H4 dl (.lst [.int 4,.int 3,.int 2,.int 1])=H5 at S5 ap ⊢;have o:=al.ex S5;refine⟨_,rfl,p,c,4,rfl,o,by decide,by decide,fun r6 H6 bi bl I J=>?_⟩;have T6:=(T4.same S5).ex o J;have M6:=(M4.same S5).ex o J;obtain⟨d,ed,L⟩:=at43 bi bl;obtain⟨bd,dd⟩:=Mo d L;refine⟨dl,_,r6,.int (d:Nat),rfl,rfl,ay.of (J _ _ ap np.symm),ed,?_⟩;refine fun kd l=>?_;have bn:kd≠p:=(I.nep l).symm;have bo:c≠kd:=I.nec l;have S7:ab H6 (upd H6 kd (.dT [])):=ab.new l;have as:upd H6 kd (.dT []) kd=some (.dT []):=aa;generalize upd H6 kd (.dT [])=H7 at S7 as ⊢;refine⟨_,rfl,t,y,z,A,B,D,g,J2,J4,ds,rfl,T6.same S7,m,fun f H8 hf S8=>?_⟩;have aC:=S7.trans S8;have D8:eL Mg H8 kd [] g J2 J4 ds 0:=⟨S8 _ _ as,fun _ h=>(by cases h),cL _⟩;have fl:(closF J4 ds (J4.take 1)).length<=1000:=aD kC (by omega);generalize hF:closF J4 ds (J4.take 1)=F at hf fl;refine⟨_,rfl,_,rfl,_,rfl,_,rfl,Mg,IA,H6,t,y,z,A,B,kd,f,D,[],0,d,F,g,J2,J4,ds,rfl,L,T6,m,l,aC,D8,hf,fl,by omega,fun a0 H9 D9 a4=>?_⟩;have N:=bJ.sameH aC l a4;have mp:=le g J2 J4 ds d F;have W9:Hj C p c t y z A B kd f M D g J2 J4 F ds a0 (0+lB d) H9:=⟨I.ex N,bn,bo,(T6.same N).hidD D9.hkd,M6.same (Au N l),bJ.ktd D8.hkd a4 _ _ hf,D9⟩;refine⟨2,rfl,by decide,by decide,?_⟩
 let bz:Nat->L2.St->Hp->Prop:=fun i σ H'=>MN fun(kv:List (TK×V)) (x8 x9 O s:Option V)=>σ=[some (.ref a),some (.ref p),some (.ref t),some (.ref M),some (.int (d:Nat)),some (.ref kd),some (.ref f),some (.int (cntM g J2 J4 ds d F)),x8,x9,O,s]/\Hj C p c t y z A B kd f M D g J2 J4 F ds kv (lB d+i * uB d) H'
 refine jb (lo:=0) (n:=uJ 2) bz ⟨a0,_,_,_,_,rfl,{ W9 with kn:=W9.kn.more (by omega) }⟩ ?_ ?_;rotate_left
 ·rintro σ G ⟨kv,x8,x9,O,s,rfl,_⟩;exact k G
 rintro i σ G hi ⟨kv,x8,x9,O,s,rfl,W⟩;have hi:i<2:=hi;have ch:(i+1) * uB d=i * uB d+uB d:=fk _ _;have b8:(i+1) * uB d<=2 * uB d:=c7 _ (by omega);refine⟨_,rfl,_,rfl,p,c,_,rfl,W.pen,mp,fun x G2 x0 x1 a5 a6=>?_⟩;have W2:=W.exp a5 a6;refine⟨_,rfl,_,rfl,_,rfl,M,d,x,g,J2,J4,ds,rfl,L,W2.mach.same gK,x0,by rw[hF];exact x1,fun v3 G3 t3 S3=>?_⟩;rw[hF,<-EQ]at t3;have W3:=W2.same S3;obtain⟨u,a7⟩:=EO g J2 J4 ds d F x;have Y:=BO z2 4 _ [] [] u (aD a7 L);have en:=EM (J2:=J2) (J4:=J4) (ds:=ds) m.okA.1 d F x x0 x1;generalize nthT g J2 J4 ds d F x=T3 at t3 u a7 Y en;refine⟨_,rfl,_,rfl,_,rfl,M,d,v3,T3,g,J2,J4,ds,rfl,L,W3.mach.same gK,t3,u,by omega,aD Y (by decide),fun G4 S4=>?_⟩;rw[hF,en];refine⟨_,rfl,rfl,_,rfl,?_⟩;rw[zzr1 (show vI (some x)=V.int x from rfl)];refine bt ?_;have W4:=W3.same S4;refine⟨_,rfl,p,c,3,rfl,W4.pen,by decide,by decide,fun q G5 q0 q3 o a8=>?_⟩;have W5:=W4.exp o a8;have bI:gg G4 G5:=by obtain⟨xs,hx⟩:=W4.pen.lst;exact a8.kt hx
 rw[Ab]at Y;refine⟨q,rfl,by omega,by omega,?_⟩
 let bS:Nat->L2.St->Hp->Prop:=fun j σ H'=>NE4 fun(v:V) (T:Tr) (s:Option V) (_:Unit)=>Jr (σ=[some (.ref a),some (.ref p),some (.ref t),some (.ref M),some (.int (d:Nat)),some (.ref kd),some (.ref f),some (.int (cntM g J2 J4 ds d F)),some (.int (0+(i:Nat))),some (.int x),some v,s]) (cV K H' (T.dt J2) v) (T.wf g J2) (T.hgt<=4+j/\T.sz<=JR 4+5 * j) (Hj C p c t y z A B kd f M D g J2 J4 F ds kv (lB d+i * uB d) H')
 refine jb (lo:=0) (n:=uJ q) bS ⟨v3,T3,_,(),rfl,cV.kt (fun b xs e=>bI _ _ (ab.kt S4 _ _ e)) _ _ t3,u,⟨by omega,by omega⟩,W5⟩ ?_ ?_
 ·rintro j σ G6 hj ⟨v,T,a9,_,rfl,tv,w,⟨b1,b2⟩,W6⟩;have hj:j<2:=by omega
  refine⟨_,rfl,_,rfl,_,rfl,p,c,t,y,z,A,B,D,v,T,g,J2,J4,ds,rfl,by omega,W6.pen,W6.told.same gK,m,tv,w,fun v' U G7 b3 bU b4 b5=>?_⟩;have bh:=bU.hgt;have bs:=bU.sz;exact⟨v',U,_,(),rfl,b3,bU.wf,⟨by omega,by omega⟩,W6.exp b4 b5⟩
 rintro σ G6 ⟨v,T,a9,_,rfl,tv,w,⟨b1,b2⟩,W6⟩;have hq:uJ q<=2:=by omega
 have z4:JR 4=781:=rfl;refine⟨_,rfl,_,rfl,_,rfl,M,d,v,T,g,J2,J4,ds,rfl,L,W6.mach.same gK,tv,w,by omega,by rw[Ab];omega,fun G7 S7=>?_⟩;rw[hF];have W7:=W6.same S7;refine⟨_,rfl,_,rfl,_,rfl,_,rfl,_,rfl,Mg,IA,io G7 kd,t,y,z,A,B,kd,f,D,kv,_,d,v,T,F,g,J2,J4,ds,rfl,L,W7.told,m,gJ _ _,gK,W7.kn,W7.face,fl,cV.kt (ab.kt S7) _ _ tv,w,by omega,by omega,fun b6 G8 D8 b7=>?_⟩;refine⟨Gk _ _,_,rfl,?_⟩;rw[zzr1 rfl];refine bt ⟨b6,_,_,_,_,rfl,?_⟩;have W8:=W7.exk D8 b7;exact{ W8 with kn:=W8.kn.more (by omega) }
def eU(i:Nat):Stmt:=PySem.Challenge.pw_mumtrial_k43_number_of_a_trial.main.body.getD i (.Pass ⟨0,0,0,0⟩)
local macro_rules | `(tactic| walk_at "s")=>`(tactic| exact⟨rfl,rfl,rfl,by decide +kernel,rfl,by decide +kernel,by decide +kernel⟩)
local macro_rules | `(tactic| walk_at "l")=>`(tactic| (intro _ _ _ _ h;first|exact len_h h|exact len_g h|(cases h;subst_vars;rfl)|(obtain⟨_,_,h,_⟩:=h;subst h;rfl)|((repeat obtain⟨_,h⟩:=h);subst_vars;rfl)))
theorem zzlS{e:List Value}{n:Nat}(h:e.length=n+1):∃ a t,e=a::t∧t.length=n:=by
  cases e with
  |nil=>cases h
  |cons a t=>exact⟨a,t,rfl,Nat.succ.inj h⟩
local macro_rules | `(tactic| walk_at "b")=>`(tactic| (intro _ _ _ _ _ _ us hl;(repeat (have h:=zzlS hl;clear hl;obtain⟨_,_,e,hl⟩:=h;subst e));cases List.eq_nil_of_length_eq_zero hl;rfl))
def MR(K:Za)(x qual:Str)(st:Stmt)(f:Addr):Prop:=∃(oc:Value) (od an:Option Addr) (sl:Array (Option Value)) (kV dc pm cd ct:Value),
 K.lookup f=some ⟨oc,od,.func (jf x qual (i0 st) (g7 st) (cx st) .none kV dc pm an cd ct),sl⟩/\oR K cd qual=true/\iC K (.ref f)=true
theorem IZ{K:Za}{x a:Str}{st:Stmt}{f:Addr}{g:Value}{h i:Option Addr}{j:Array (Option Value)}{kV m n e o:Value}(l:K.lookup f=some ⟨g,h,.func (jf x a (i0 st) (g7 st) (cx st) .none kV m n i e o),j⟩)
  (c:oR K e a=true) (k:iC K (.ref f)=true):MR K x a st f:=⟨g,h,i,j,kV,m,n,e,o,l,c,k⟩
def h7(K:Za)(x:Str)(st:Stmt):Prop:=∃f,cw K ca x=some (some (.ref f))/\MR K x x st f
theorem fnG_mk{K:Za}{x:Str}{st:Stmt}{f:Addr}{g:Value}{h i:Option Addr}{j:Array (Option Value)}{kV m n e o:Value}(a:cw K ca x=some (some (.ref f)))(l:K.lookup f=some ⟨g,h,.func (jf x x (i0 st) (g7 st) (cx st) .none kV m n i e o),j⟩)
  (c:oR K e x=true) (k:iC K (.ref f)=true):h7 K x st:=⟨f,a,IZ l c k⟩
def xg(K:Za)(C:Addr)(m qual:Str)(st:Stmt):Prop:=∃f,dX K (.ref C) m=some (some (.ref f))/\Bb K (.ref f)=true/\MR K m qual st f
theorem fnM_mk{K:Za}{C:Addr}{m e:Str}{st:Stmt}{f:Addr}{h:Value}{j n:Option Addr}{o:Array (Option Value)}{kV p q g r:Value}(a:dX K (.ref C) m=some (some (.ref f)))(i:Bb K (.ref f)=true)
  (l:K.lookup f=some ⟨h,j,.func (jf m e (i0 st) (g7 st) (cx st) .none kV p q n g r),o⟩) (c:oR K g e=true) (k:iC K (.ref f)=true):xg K C m e st:=⟨f,a,i,IZ l c k⟩
theorem MR.fun_{K:Za}{x a:Str}{st:Stmt}{f:Addr}(T:MR K x a st f):∃e,Mn K x a st f e:=by
 obtain⟨g,h,i,j,kV,m,n,o,p,l,c,k⟩:=T;exact⟨_,IW (st:=st) l c k⟩
def Df:Sp:=fun _ _ _ _=>False
theorem xH{P:bZ}{w:World}{K:Za}{a:Str->Option Value}{base:Heap}{k:Nat}{f:Addr}{e:lE}{g:Zb}:mU P w K a base CX0 k f e g Df:=⟨fun _ _ _ _ h=>h.elim,fun _ _ _ _ _ _ _ _ _ _ _ _ _ h=>h.elim⟩
def Jo(K:Za)(a:Addr)(ws:Zb):Prop:=∀H,bT K H a (ws.map V.str)
theorem uk{K:Za}{a:Addr}{f:Zb}{o:Obj}{e:Array Value}{n:Nat}(l:K.lookup a=some o)(c:o.cls=.type "tuple")(d:o.data=.seq e n)(z:e.size<=aj)(v:bg (f.map V.str) e.toList):Jo K a f :=
 fun _=>.inr ⟨o,e,n,l,c,d,z,v⟩
section
variable{P:bZ}{w:World}{K:Za}{mg:Str->Option Value}{base h:Heap}{C:Addr}{x qual:Str}{st:Stmt}{N ps:Zb}{k:Nat}{sp:Sp}
abbrev Jt(ps:Zb)(sp:Sp):Prop:=∀vs H Q E,sp vs H Q E->vs.length=ps.length
abbrev BodyOk(CX:Hk)(P:bZ)(w:World)(K:Za)(mg:Str->Option Value)(base:Heap)(qual:Str)(st:Stmt)(N:Zb)(k:Nat)(sp:Sp)(nox:Cx->Cx):Prop:=N.Nodup->∀(f:Addr) (cdv:Value) (A:Around) (outer:List Env) (s:Shared) (H:Hp) (vs:List V) (Q:VK) (E:XK),fM k (A.deeper (envOfC qual (cx st) s.heap.objs.size f cdv))->(A.deeper (envOfC qual (cx st) s.heap.objs.size f cdv)).units+16<cLine->sp vs H Q E ->
 ∃t,CM (nox (DO CX P w K mg base N qual (cx st) f cdv A outer s H E)) (g7 st) t/\t (bq Q) (start N vs) H
abbrev Ec(x qual:Str)(st:Stmt)(ps:Zb):Prop:=∀(kV doc pm:Value) (an:Option Addr) (cdv ct:Value) (us:Zf),us.length=ps.length->bindArgs (jf x qual (i0 st) (g7 st) (cx st) .none kV doc pm an cdv ct) ⟨us,[]⟩=pure (ps.zip us)
theorem dG(X:K.In h)(G:h.Ns ca mg)(T:h7 K x st)(b:BodyOk CX0 P w K mg base x st N k sp Cx.nox)(i:Ec x x st ps)(S:lh N ps (cx st):=by walk_at "s")(l:Jt ps sp:=by walk_at "l"):fN P w K mg base x ps (k+1) sp:=by
 obtain⟨f,a,t⟩:=T;obtain⟨j,F⟩:=t.fun_;exact⟨f,j,F.ok S l fun e A outer s H m Q E g h=>b S.nd f e A outer s H m Q E g (EW g) h,d6 X G a,F.kp,F.binds i⟩
theorem dM(j:Fu K C)(T:xg K C x qual st)(b:BodyOk CX0 P w K mg base qual st N k sp Cx.nox)(m:Ec x qual st ps)(S:lh N ps (cx st):=by walk_at "s")(l:Jt ps sp:=by walk_at "l"):oj P w K mg base C x ps (k+1) sp:=by
 obtain⟨f,a,i,t⟩:=T;obtain⟨n,F⟩:=t.fun_;exact⟨f,n,F.ok S l fun e A outer s H o Q E g h=>b S.nd f e A outer s H o Q E g (EW g) h,j,⟨a,i,F.kp⟩,F.binds m⟩
theorem dN{y:Str}(j:mg y=some (.ref C))(m:pR K C=true)(n:iC K (.ref C)=true)(T:xg K C "__init__" qual st)(b:BodyOk CX0 P w K mg base qual st N k sp Cx.nox)(o:Ec "__init__" qual st ps)(S:lh N ps (cx st):=by walk_at "s")(l:Jt ps sp:=by walk_at "l"):MM P w K mg base y C ps (k+1) sp:=by
 obtain⟨f,a,i,t⟩:=T;obtain⟨p,F⟩:=t.fun_;exact⟨f,p,F.ok S l fun e A outer s H q Q E g h=>b S.nd f e A outer s H q Q E g (EW g) h,j,⟨m,a,i,n⟩,F.binds o⟩
end
structure Zs(mg:Str->Option Value):Prop where
 all:mg "all"=none
 dict:mg "dict"=none
 divmod:mg "divmod"=none
 enumerate:mg "enumerate"=none
 int:mg "int"=none
 len:mg "len"=none
 list:mg "list"=none
 range:mg "range"=none
 reversed:mg "reversed"=none
 sum:mg "sum"=none
 tuple:mg "tuple"=none
 zip:mg "zip"=none
structure Cs(K:Za)(mg:Str->Option Value)(C Ck Cd a_STILL a_HUSH a_BLAME a_END:Addr):Prop where
 LETTERS:Gc mg "LETTERS" (.str "abcdefghijklmnopqrstuvwxyz")
 LONGEST_NAME:Gc mg "LONGEST_NAME" (.int 8)
 MOST_WORDS:Gc mg "MOST_WORDS" (.int 4)
 MOST_ROOMS:Gc mg "MOST_ROOMS" (.int 150)
 MOST_DOORS:Gc mg "MOST_DOORS" (.int 2000)
 DEEPEST:Gc mg "DEEPEST" (.int 4)
 MOST_WITHIN:Gc mg "MOST_WITHIN" (.int 8)
 MOST_TRIALS:Gc mg "MOST_TRIALS" (.int 1000)
 STILL:Gc mg "STILL" (.ref a_STILL)
 HUSH:Gc mg "HUSH" (.ref a_HUSH)
 BLAME:Gc mg "BLAME" (.ref a_BLAME)
 END:Gc mg "END" (.ref a_END)
 still:Jo K a_STILL bx
 hush:Jo K a_HUSH bX
 blm:Jo K a_BLAME dw
 enD:Jo K a_END eQ
 mc:MC K C
 cm:mg "Machine"=some (.ref C)
 makes:pR K C=true
 kc:iC K (.ref C)=true
 ksc:KC K Ck
 cmksc:mg "KnownSteps"=some (.ref Ck)
 makesksc:pR K Ck=true
 kcksc:iC K (.ref Ck)=true
 dc:DC K Cd
 cmdc:mg "Made"=some (.ref Cd)
 makesdc:pR K Cd=true
 kcdc:iC K (.ref Cd)=true
structure Ts(K:Za)(C Ck Cd:Addr):Prop where
 f_law_spread:h7 K "_law_spread" (eU 59)
 f_law_open:h7 K "_law_open" (eU 60)
 f_law_anew:h7 K "_law_anew" (eU 61)
 f_law_take:h7 K "_law_take" (eU 62)
 f_law_names:h7 K "_law_names" (eU 63)
 f_law_put:h7 K "_law_put" (eU 65)
 f_law_draw_doors:h7 K "_law_draw_doors" (eU 66)
 f_law_model:h7 K "_law_model" (eU 67)
 f_is_name:h7 K "is_name" (eU 22)
 f_as_keys:h7 K "as_keys" (eU 23)
 f_first_wrong_name:h7 K "first_wrong_name" (eU 24)
 f_door_signs:h7 K "door_signs" (eU 25)
 f_first_wrong_door:h7 K "first_wrong_door" (eU 26)
 f_goals_by_start_and_sign:h7 K "goals_by_start_and_sign" (eU 27)
 f_led_by_still:h7 K "led_by_still" (eU 28)
 f_first_led_round:h7 K "first_led_round" (eU 29)
 f_need_none:h7 K "need_none" (eU 30)
 f_need_parts:h7 K "need_parts" (eU 31)
 f_doors_by_start:h7 K "doors_by_start" (eU 32)
 f_has_asks_alone:h7 K "has_asks_alone" (eU 33)
 f_Machine___init__:xg K C "__init__" "Machine.__init__" (dv (eU 34) 0)
 f_law_machine:h7 K "_law_machine" (eU 74)
 f_Machine_rooms:xg K C "rooms" "Machine.rooms" (dv (eU 34) 3)
 f_Machine_led_from:xg K C "led_from" "Machine.led_from" (dv (eU 34) 8)
 f_with_still:h7 K "with_still" (eU 10)
 f_Machine_goals:xg K C "goals" "Machine.goals" (dv (eU 34) 7)
 f_Machine_is_quiet:xg K C "is_quiet" "Machine.is_quiet" (dv (eU 34) 5)
 f_law_still_on:h7 K "_law_still_on" (eU 64)
 f_Machine_asks:xg K C "asks" "Machine.asks" (dv (eU 34) 1)
 f_Machine_says:xg K C "says" "Machine.says" (dv (eU 34) 2)
 f_first_face:h7 K "first_face" (eU 11)
 f_face_behind:h7 K "face_behind" (eU 12)
 f_signs_in_order:h7 K "signs_in_order" (eU 9)
 f_steps_at:h7 K "steps_at" (eU 13)
 f_KnownSteps___init__:xg K Ck "__init__" "KnownSteps.__init__" (dv (eU 14) 0)
 f_KnownSteps_steps_from:xg K Ck "steps_from" "KnownSteps.steps_from" (dv (eU 14) 1)
 f_need_depth:h7 K "need_depth" (eU 52)
 f_product:h7 K "product" (eU 53)
 f_Made___init__:xg K Cd "__init__" "Made.__init__" (dv (eU 55) 0)
 f_Made_steps_from:xg K Cd "steps_from" "Made.steps_from" (dv (eU 55) 1)
 f_Made_kinds_at:xg K Cd "kinds_at" "Made.kinds_at" (dv (eU 55) 2)
 f_Made_count_at:xg K Cd "count_at" "Made.count_at" (dv (eU 55) 3)
 f_Made_count_of:xg K Cd "count_of" "Made.count_of" (dv (eU 55) 4)
 f_trial_from:h7 K "trial_from" (eU 54)
 f_Made_trial_of:xg K Cd "trial_of" "Made.trial_of" (dv (eU 55) 6)
 f_Made_trial_at:xg K Cd "trial_at" "Made.trial_at" (dv (eU 55) 5)
 f_made_by:h7 K "made_by" (eU 56)
 f_is_tell:h7 K "is_tell" (eU 40)
 f_is_wait:h7 K "is_wait" (eU 41)
 f_says_and_parts:h7 K "says_and_parts" (eU 42)
 f_signed_parts:h7 K "signed_parts" (eU 43)
 f_parts_behind:h7 K "parts_behind" (eU 44)
 f_with_ways:h7 K "with_ways" (eU 45)
 f_has_says_in_order:h7 K "has_says_in_order" (eU 46)
 f_is_so_by_itself:h7 K "is_so_by_itself" (eU 47)
 f_checked_with_ways:h7 K "checked_with_ways" (eU 48)
 f_need_trial:h7 K "need_trial" (eU 49)
 f_Made_number_of_kind:xg K Cd "number_of_kind" "Made.number_of_kind" (dv (eU 55) 8)
 f_Made_number_at:xg K Cd "number_at" "Made.number_at" (dv (eU 55) 7)
 f_number_of:h7 K "number_of" (eU 57)
 f_law_behind:h7 K "_law_behind" (eU 68)
 f_law_begin:h7 K "_law_begin" (eU 69)
 f_law_part_signs:h7 K "_law_part_signs" (eU 70)
 f_law_after:h7 K "_law_after" (eU 76)
 f_law_asked:h7 K "_law_asked" (eU 77)
 f_law_times:h7 K "_law_times" (eU 72)
 f_law_count:h7 K "_law_count" (eU 73)
 f_law_sizes:h7 K "_law_sizes" (eU 71)
 f_law_pieces:h7 K "_law_pieces" (eU 75)
 f_law_wait:h7 K "_law_wait" (eU 80)
 f_law_bent:h7 K "_law_bent" (eU 81)
 f_law_number:h7 K "_law_number" (eU 79)
 f_law_far:h7 K "_law_far" (eU 78)
 f_law43:h7 K "law" (eU 82)
section
variable{P:bZ}{w:World}{K:Za}{mg:Str->Option Value}{base h:Heap}{C Ck Cd a_STILL a_HUSH a_BLAME a_END:Addr}
section
variable(P:bZ)(w:World)(K:Za)(mg:Str->Option Value)(C Ck Cd a_STILL a_HUSH a_BLAME a_END:Addr)
abbrev lu:Prop:=∀base,fN P w K mg base "_law_spread" ["cell","at"] 1 m8
abbrev wx:Prop:=∀base,fN P w K mg base "_law_open" ["script"] 1 (um K)
abbrev pN:Prop:=∀base,fN P w K mg base "_law_anew" ["pen"] 1 zV
abbrev gu:Prop:=∀base,fN P w K mg base "_law_take" ["pen","many"] 2 fb
abbrev mY:Prop:=∀base,fN P w K mg base "_law_names" ["pen","many"] 3 qg
abbrev sP:Prop:=∀base,fN P w K mg base "_law_put" ["doors","door"] 1 vq
abbrev ir:Prop:=∀base,fN P w K mg base "_law_draw_doors" ["pen","asks","says","rooms","full"] 3 iA
abbrev tI:Prop:=∀base,fN P w K mg base "_law_model" ["pen","most","full"] 4 qi
abbrev sQ:Prop:=∀base,fN P w K mg base "is_name" ["text"] 1 sp_is_name
abbrev kF:Prop:=∀base,fN P w K mg base "as_keys" ["things"] 1 (sp_as_keys K)
abbrev gv:Prop:=∀base,fN P w K mg base "first_wrong_name" ["names","most","taken"] 2 (sp_first_wrong_name K)
abbrev lC:Prop:=∀base,fN P w K mg base "door_signs" ["asks","says"] 1 (sp_door_signs K)
abbrev gx:Prop:=∀base,fN P w K mg base "first_wrong_door" ["doors","rooms","signs"] 2 (sp_first_wrong_door K)
abbrev dC:Prop:=∀base,fN P w K mg base "goals_by_start_and_sign" ["doors"] 1 qj
abbrev jA:Prop:=∀base,fN P w K mg base "led_by_still" ["goals","room"] 1 zS
abbrev hV:Prop:=∀base,fN P w K mg base "first_led_round" ["rooms","led"] 1 sp_first_led_round
abbrev jO:Prop:=∀base,fN P w K mg base "need_none" ["part","number"] 1 sp_need_none
abbrev lr:Prop:=∀base,fN P w K mg base "need_parts" ["asks","says","rooms","doors"] 3 sp_need_parts
abbrev iw:Prop:=∀base,fN P w K mg base "doors_by_start" ["rooms","doors"] 1 sp_doors_by_start
abbrev iu:Prop:=∀base,fN P w K mg base "has_asks_alone" ["doors"] 1 sp_has_asks_alone
abbrev sR:Prop:=∀base,MM P w K mg base "Machine" C ["self","asks","says","rooms","doors"] 4 (uq C)
abbrev oE:Prop:=∀base,fN P w K mg base "_law_machine" ["told"] 6 (kQ C)
abbrev gi:Prop:=∀base,oj P w K mg base C "rooms" ["self"] 1 (mx C)
abbrev gA:Prop:=∀base,oj P w K mg base C "led_from" ["self","room"] 1 (jH C)
abbrev i5:Prop:=∀base,fN P w K mg base "with_still" ["M","rooms"] 2 (sp_with_still C)
abbrev iS:Prop:=∀base,oj P w K mg base C "goals" ["self","room","sign"] 1 (ke C)
abbrev gB:Prop:=∀base,oj P w K mg base C "is_quiet" ["self","room"] 1 (jI C)
abbrev hC:Prop:=∀base,fN P w K mg base "_law_still_on" ["doors","rooms"] 1 (iD K)
abbrev hZ:Prop:=∀base,oj P w K mg base C "asks" ["self"] 1 (qq C)
abbrev fF:Prop:=∀base,oj P w K mg base C "says" ["self"] 1 (m9 C)
abbrev i8:Prop:=∀base,fN P w K mg base "first_face" ["M"] 3 (cu C)
abbrev jY:Prop:=∀base,fN P w K mg base "face_behind" ["M","face","sign"] 3 (ur K C)
abbrev ip:Prop:=∀base,fN P w K mg base "signs_in_order" ["M"] 2 (zR C a_HUSH)
abbrev pL:Prop:=∀base,fN P w K mg base "steps_at" ["M","face"] 4 (kO C)
abbrev lD:Prop:=∀base,MM P w K mg base "KnownSteps" Ck ["self","M"] 1 (nn Ck)
abbrev eB:Prop:=∀base,oj P w K mg base Ck "steps_from" ["self","face"] 5 (nr C Ck)
abbrev i6:Prop:=∀base,fN P w K mg base "need_depth" ["d"] 1 cH
abbrev nP:Prop:=∀base,fN P w K mg base "product" ["numbers"] 1 sp_product
abbrev A8:Prop:=∀base,MM P w K mg base "Made" Cd ["self","M"] 3 (kg C Ck Cd)
abbrev cy:Prop:=∀base,oj P w K mg base Cd "steps_from" ["self","face"] 6 (ib C Ck Cd)
abbrev eS:Prop:=∀base,oj P w K mg base Cd "kinds_at" ["self","face"] 7 (i_ K C Ck Cd)
abbrev dD:Prop:=∀base,oj P w K mg base Cd "count_at" ["self","face","d"] 16 (gS C Ck Cd 4)
abbrev gh:Prop:=∀base,oj P w K mg base Cd "count_of" ["self","face","d","signs"] 17 (iE K C Ck Cd 4)
abbrev lm:Prop:=∀base,fN P w K mg base "trial_from" ["signs","parts"] 1 (m7 K)
abbrev iR:Prop:=∀base,oj P w K mg base Cd "trial_at" ["self","face","d","number"] 26 (kP K C Ck Cd 4)
abbrev yn:Prop:=∀base,fN P w K mg base "made_by" ["M","d","number"] 27 (nh K C)
abbrev nR:Prop:=∀base,fN P w K mg base "is_tell" ["trial"] 1 (kT K 4 "tell")
abbrev nQ:Prop:=∀base,fN P w K mg base "is_wait" ["trial"] 1 (kT K 3 "wait")
abbrev iq:Prop:=∀base,fN P w K mg base "says_and_parts" ["pairs"] 1 (iY K)
abbrev g_:Prop:=∀base,fN P w K mg base "signed_parts" ["trial"] 2 (i9 K)
abbrev jz:Prop:=∀base,fN P w K mg base "parts_behind" ["way","story","trial"] 3 (m_ K)
abbrev mV:Prop:=∀base,fN P w K mg base "with_ways" ["trial"] 4 (jG K)
abbrev fV:Prop:=∀base,fN P w K mg base "has_says_in_order" ["M","pairs"] 2 (kU K C)
abbrev hJ:Prop:=∀base,fN P w K mg base "is_so_by_itself" ["M","trial"] 3 (uo K C)
abbrev fW:Prop:=∀base,fN P w K mg base "checked_with_ways" ["M","trial"] 5 (kW K C)
abbrev ln:Prop:=∀base,fN P w K mg base "need_trial" ["M","trial"] 6 (ng K C)
abbrev iz:Prop:=∀base,oj P w K mg base Cd "number_at" ["self","face","d","trial"] 26 (pf K C Ck Cd 4)
abbrev tH:Prop:=∀base,fN P w K mg base "number_of" ["M","d","trial"] 27 (qe K C)
abbrev lA:Prop:=∀base,fN P w K mg base "_law_behind" ["told","face","sign"] 2 (zU K)
abbrev tJ:Prop:=∀base,fN P w K mg base "_law_begin" ["told"] 2 qp
abbrev eo:Prop:=∀base,fN P w K mg base "_law_part_signs" ["told","ask"] 1 my
abbrev gL:Prop:=∀base,fN P w K mg base "_law_after" ["told","known","face","sign"] 3 (kh K)
abbrev jQ:Prop:=∀base,fN P w K mg base "_law_asked" ["told","known","face"] 4 (mC K)
abbrev jP:Prop:=∀base,fN P w K mg base "_law_times" ["numbers"] 1 sp_product
abbrev mZ:Prop:=∀base,fN P w K mg base "_law_count" ["told","known","face","deep"] 13 (kS K 4)
abbrev mW:Prop:=∀base,fN P w K mg base "_law_sizes" ["told","known","face","ask","deep"] 14 (jj K 4)
abbrev i7:Prop:=∀base,fN P w K mg base "_law_pieces" ["trial"] 1 (kb K)
abbrev pM:Prop:=∀base,fN P w K mg base "_law_wait" ["told","other"] 1 (ka K)
abbrev wz:Prop:=∀base,fN P w K mg base "_law_bent" ["pen","told","trial"] 8 (jm K 5)
abbrev rf:Prop:=∀base,fN P w K mg base "_law_number" ["told","known","face","deep","trial"] 19 (kR K 4)
abbrev yo:Prop:=∀base,fN P w K mg base "_law_far" ["pen","many"] 3 zT
end
section
variable(X:K.In h)(G:h.Ns ca mg)(z:Zs mg)(c:Cs K mg C Ck Cd a_STILL a_HUSH a_BLAME a_END)(T:Ts K C Ck Cd)
include X G z c T
theorem wM:lu P w K mg:=fun base=>dG X G T.f_law_spread (fun S _ _ _ _ _ _ _ _ _ a e h=>bK (FQ (K:=K) h) (ac (bD (iW Iq (pv 0) (aE Io af af)) (ag (au (pv 0))) aH) (ac (qs 2 S (aE gX (aE cD (aE cD (aE js (aE gX (pv 0) af) af) (aE js (pv 1) af)) af) af)) (ac (qs 3 S (aE gX (aE cD (aE cD (aE js (pv 2) (pv 2)) (aE js (pv 1) af)) (aE gX (pv 0) af)) af)) (ac (qs 4 S (aE gX (aE cD (aE cD (aE js (pv 3) (pv 3)) (aE js (pv 2) af)) af) af)) (ag (au (aE cD (aE js (aE cD (aE js (pv 2) af) (pv 3)) af) (pv 4))))))))) (by walk_at "b")
theorem By:wx P w K mg:=fun base=>dG X G T.f_law_open (fun S _ _ _ _ _ _ _ _ _ a e h=>bK (Kc h) (ac (qs 1 S (qL rfl z.list (a1 (cY fI (pv 0) fg (du af))))) (ac (bN bw rfl (nA rfl z.enumerate (a1 (cY fI (pv 0) (du af) (du af)))) (cU rfl (av (gn 2 S) (av (gn 3 S) cg))) (ag (ii (aE cD (xl (pv 1) (aE gX (pv 2) af)) (pv 3)) (mG (pv 1) (aE gX (pv 2) af) iF)))) (ag (au (bm (a3 (pv 1) af af))))))) (by walk_at "b")
theorem BA:pN P w K mg:=fun base=>dG X G T.f_law_anew (fun S _ _ _ _ _ _ _ _ _ a e h=>bK (Km (K:=K) h) (ac (ii af (mG (pv 0) af iF)) (ag (au (pv 0))))) (by walk_at "b")
theorem Bx(a:lu P w K mg):gu P w K mg:=fun base=>dG X G T.f_law_take (fun S _ _ _ _ _ _ _ _ _ e f h=>bK (Ka h) (ac (bD (iW BS (xl (pv 0) af) (pv 1)) (ac (qs 2 S (xl (pv 0) af)) (ac (qs 3 S af) (ac (bD (iW BS (pv 2) (ql z.len (a1 (xl (pv 0) af)))) (ag (qs 3 S (xl (xl (pv 0) af) (pv 2)))) (ag (bD (iW xG (ql z.len (a1 (xl (pv 0) af))) af) (ag (qs 3 S (aE gX (xl (xl (pv 0) af) (aE gX (aE cD (aE js (pv 2) af) af) (ql z.len (a1 (xl (pv 0) af))))) (aE cD (aE Io af af) (pv 2))))) aH))) (ac (ii (aE cD (pv 2) af) (mG (pv 0) af iF)) (ag (ii (qf e (a base) (a2 (pv 3) (pv 2))) (mG (pv 0) af iF))))))) aH) (ac (qs 4 S (aE gX (xl (pv 0) af) (pv 1))) (ac (ii (aE EL (xl (pv 0) af) (pv 1)) (mG (pv 0) af iF)) (ag (au (pv 4))))))) (by walk_at "b")
theorem zH(a:gu P w K mg):mY P w K mg:=fun base=>dG X G T.f_law_names (fun S _ _ _ _ _ _ _ _ _ e f h=>bK (HI h) (ac (qs 2 S aW) (ac (qs 3 S (jq PySem.F.plainAttrs_str PySem.F.slot_str_join PySem.F.type_str_join KD aW (a1 (qc (im rfl z.range (a1 af)) (aJ (by decide)) fun _ _ _ _ _ _=>⟨gc 0,bO,xs' (pv 1) (qf e (a base) (a2 (pv 2) af))⟩)))) (ac (qs 4 S (qf e (a base) (a2 (pv 0) af))) (ac (qs 5 S (qf e (a base) (a2 (pv 0) af))) (ac (qs 6 S (qf e (a base) (a2 (pv 0) af))) (ac (qs 7 S (bm da)) (ac (bN bw rfl (im rfl z.range (a1 (pv 1))) (gn 8 S) (ac (qs 9 S (xs' (pv 2) (aE gX (aE cD (pv 5) (aE js af (pv 8))) af))) (ac (qs 10 S (cY Dg (pv 3) fg (du (aE gX (aE cD (pv 6) (aE js (pv 8) (aE gX (pv 4) af))) af)))) (ac (qs 11 S (xl (bm (a3 af (ql z.len (a1 (pv 10))) (aE EL (ql z.len (a1 (pv 10))) af))) (pv 4))) (ag (bH (jq fQ iL iK dg (pv 7) (a1 (aE vH (aE vH (cY Dg (pv 10) fg (du (pv 11))) (pv 9)) (cY Dg (pv 10) (du (pv 11)) fg)))))))))) (ag (au (pv 7))))))))))) (by walk_at "b")
theorem C5:sP P w K mg:=fun base=>dG X G T.f_law_put (fun S _ _ _ _ _ _ _ _ _ e a h=>bK (LC h) (ag (bD (Lz (nC a) (pv 1) (pv 0)) (ag (bH (jq fQ iL iK dg (pv 0) (a1 (pv 1))))) aH))) (by walk_at "b")
theorem qa(a:gu P w K mg)(e:sP P w K mg):ir P w K mg:=fun base=>dG X G T.f_law_draw_doors (fun S _ _ _ _ _ _ _ _ _ f g h=>bK (wY h) (ac (qs 5 S (bm da)) (ac (qs 6 S (qf f (a base) (a2 (pv 0) af))) (ac (bN bw rfl (nA rfl z.enumerate (a1 (pv 3))) (cU rfl (av (gn 7 S) (av (gn 8 S) cg))) (ac (bN bw rfl (im rfl z.range (a1 (xl (bm (aX af (a3 af af af))) (qf f (a base) (a2 (pv 0) af))))) (gn 9 S) (ac (qs 10 S (aG (a2 aW (xl (pv 2) (qf f (a base) (a2 (pv 0) (ql z.len (a1 (pv 2))))))))) (ag (bH (qf f (e base) (a2 (pv 5) (aG (a3 (pv 8) (pv 10) (xl (pv 3) (qf f (a base) (a2 (pv 0) (ql z.len (a1 (pv 3)))))))))))))) (ac (bN bw rfl (aU (pv 1)) (gn 11 S) (ag (bN bw rfl (im rfl z.range (a1 (xl (bm (aX (pv 4) (a3 af af af))) (qf f (a base) (a2 (pv 0) af))))) (gn 9 S) (ag (bH (qf f (e base) (a2 (pv 5) (aG (a3 (pv 8) (aG (a2 aW (pv 11))) (xl (pv 3) (qf f (a base) (a2 (pv 0) (ql z.len (a1 (pv 3))))))))))))))) (ac (qs 12 S (xl (bm (a2 (cY fI (pv 3) (du (aE cD (pv 7) af)) fg) (cY fI (pv 3) fg (du (pv 7))))) (pv 6))) (ag (bD (PW.pt (Aa (iW (Ip g) (pv 12) (bm da)) (z_ (iW eO (qf f (a base) (a2 (pv 0) af)) af)))) (ag (bH (qf f (e base) (a2 (pv 5) (aG (a3 (pv 8) (aG (a1 aW)) (xq (pv 12) (qf f (a base) (a2 (pv 0) (ql z.len (a1 (pv 12)))))))))))) aH)))))) (ag (au (pv 5))))))) (by walk_at "b")
theorem zJ(g:pN P w K mg)(a:gu P w K mg)(e:mY P w K mg)(f:ir P w K mg):tI P w K mg:=fun base=>dG X G T.f_law_model (fun S _ _ _ _ _ _ _ _ _ i j h=>bK (HK h) (ac (bH (qf i (g base) (a1 (pv 0)))) (ac (qs 3 S (qf i (e base) (a2 (pv 0) af))) (ac (qs 4 S (cY fI (pv 3) fg (du (aE cD af (xl (bm (aX af (aX af (aX af (a3 af af af))))) (qf i (a base) (a2 (pv 0) af))))))) (ac (qs 5 S (cY fI (pv 3) (du af) (du (aE cD af (xl (bm (aX af (aX af (aX af (a3 af af af))))) (qf i (a base) (a2 (pv 0) af))))))) (ac (qs 6 S (qf i (e base) (a2 (pv 0) (aE cD af (qf i (a base) (a2 (pv 0) (pv 1))))))) (ac (qs 7 S (qf i (f base) (aX (pv 0) (aX (pv 4) (a3 (pv 5) (pv 6) (pv 2)))))) (ag (au (aG (aX (pv 4) (a3 (pv 5) (pv 6) (pv 7))))))))))))) (by walk_at "b")
theorem C9:sQ P w K mg:=fun base=>dG X G T.f_is_name (fun S _ _ _ _ _ _ _ _ _ a e h=>bK (Dl h) (ag (au (vF (Hh EK (pv 0) aW) (vF (Hh Mx (ql z.len (a1 (pv 0))) (f_ rfl c.LONGEST_NAME)) (vD (qB (tE rfl) z.all boot_all (a1 (qc (LM (pv 0)) (aJ (by decide)) fun _ _ _ _ _ _=>⟨gc 0,bO,eci Dv (pv 0) (f_ rfl c.LETTERS)⟩))))))))) (by walk_at "b")
theorem C_:kF P w K mg:=fun base=>dG X G T.f_as_keys (fun S _ _ _ _ _ _ _ _ _ e a h=>bK (Do h) (ac (qs 1 S qH) (ac (bN bw rfl (aU (pv 0)) (gn 2 S) (ag (gV a (pv 1) (pv 2) qI rfl))) (ag (au (pv 1)))))) (by walk_at "b")
theorem nW(a:sQ P w K mg)(e:kF P w K mg):gv P w K mg:=fun base=>dG X G T.f_first_wrong_name (fun S _ _ _ _ _ _ _ _ _ f g h=>bK (nY h) (ac (bD (iW eO (ql z.len (a1 (pv 0))) af) (ag (au af)) aH) (ac (qs 3 S (qf f (e base) (a1 (pv 2)))) (ac (bN bw rfl (nA rfl z.enumerate (a1 (pv 0))) (cU rfl (av (gn 4 S) (av (gn 5 S) cg))) (ac (bD (PW.pt (jJ (iW eO (pv 4) (pv 1)) (jJ (dL (vG g (pv 5) (pv 3))) (jT (H_ (mE (qf f (a base) (a1 (pv 5))))))))) (ag (au (pv 4))) aH) (ag (gV g (pv 3) (pv 5) qI rfl)))) (ag (au gm)))))) (by walk_at "b")
theorem wR:lC P w K mg:=fun base=>dG X G T.f_door_signs (fun S _ _ _ _ _ _ _ _ _ a e h=>bK (wZ c.still h) (ag (au (aE fD (aE fD (qc (aU (pv 0)) (aJ (by decide)) fun _ _ _ _ _ _=>⟨gc 0,bO,aG (a2 aW (pv 0))⟩) (qc (aU (pv 1)) (aJ (by decide)) fun _ _ _ _ _ _=>⟨gc 0,bO,aG (a2 aW (pv 0))⟩)) (bm (a1 (f_ rfl c.STILL))))))) (by walk_at "b")
theorem nX(a:kF P w K mg):gx P w K mg:=fun base=>dG X G T.f_first_wrong_door (fun S _ _ _ _ _ _ _ _ _ f e h=>bK (nZ h) (ac (qs 3 S (qf f (a base) (a1 (pv 1)))) (ac (qs 4 S km) (ac (bN bw rfl (nA rfl z.enumerate (a1 (pv 0))) (cU rfl (av (gn 5 S) (av (gn 6 S) cg))) (ac (bD (PW.pt (jJ (iW eO (pv 5) (f_ rfl c.MOST_DOORS)) (jT (dL (vG e (pv 6) (pv 4)))))) (ag (au (pv 5))) aH) (ac (bD (PW.pt (jJ (dL (gH e (xq (pv 6) af) (pv 3))) (jJ (Lz (nC e) (xq (pv 6) af) (pv 2)) (jT (dL (gH e (xq (pv 6) af) (pv 3))))))) (ag (au (pv 5))) aH) (ag (gV e (pv 4) (pv 6) qI rfl))))) (ag (au gm)))))) (by walk_at "b")
theorem ji:dC P w K mg:=fun base=>dG X G T.f_goals_by_start_and_sign (fun S _ _ _ _ _ _ _ _ _ e a h=>bK (jn h) (ac (qs 1 S km) (ac (bN bw rfl (aU (pv 0)) (cU rfl (av (gn 2 S) (av (gn 3 S) (av (gn 4 S) cg)))) (ag (bH (jq fQ iL iK dg (jq PySem.F.plainAttrs_dict PySem.F.slot_dict_setdefault PySem.F.type_dict_setdefault (Go a) (pv 1) (a2 (aG (a2 (pv 2) (pv 3))) (bm da))) (a1 (pv 4)))))) (ag (au (pv 1)))))) (by walk_at "b")
theorem tW:jA P w K mg:=fun base=>dG X G T.f_led_by_still (fun S _ _ _ _ _ _ _ _ _ e a h=>bK (tZ c.still h) (ac (qs 2 S qH) (ac (qs 3 S (bm (a1 (pv 1)))) (ac (qF bw (iW xG (ql z.len (a1 (pv 3))) af) (ac (qs 4 S (Du fQ PySem.F.slot_list_pop PySem.F.type_list_pop IE (pv 3))) (ag (bN bw rfl (LN (vE a (pv 0) (aG (a2 (pv 4) (f_ rfl c.STILL))) (aG da) ⟨rfl,rfl,rfl,rfl⟩)) (gn 5 S) (ag (bD (dL (gH a (pv 5) (pv 2))) (ac (gV a (pv 2) (pv 5) qI rfl) (ag (bH (jq fQ iL iK dg (pv 3) (a1 (pv 5)))))) aH)))))) (ag (au (pv 2))))))) (by walk_at "b")
theorem o_:hV P w K mg:=fun base=>dG X G T.f_first_led_round (fun S _ _ _ _ _ _ _ _ _ e a h=>bK (pi h) (ac (bN bw rfl (nA rfl z.enumerate (a1 (pv 0))) (cU rfl (av (gn 2 S) (av (gn 3 S) cg))) (ag (bD (dL (vG a (pv 3) (kZ a (pv 1) (pv 3) (fun _ _=>rfl)))) (ag (au (pv 2))) aH))) (ag (au gm)))) (by walk_at "b")
theorem zE:jO P w K mg:=fun base=>dG X G T.f_need_none (fun S _ _ _ _ _ _ _ _ _ a e h=>bK (zZ (K:=K) h) (ag (bD (dL (Kx (pv 1))) (ag (mF)) aH))) (by walk_at "b")
theorem wK(a:gv P w K mg)(g:lC P w K mg)(f:gx P w K mg)(e:jO P w K mg):lr P w K mg:=fun base=>dG X G T.f_need_parts (fun S _ _ _ _ _ _ _ _ _ i j h=>bK (wV (K:=K) h) (ac (bH (qf i (e base) (a2 aW (qf i (a base) (a3 (pv 0) (f_ rfl c.MOST_WORDS) (bm da)))))) (ac (bH (qf i (e base) (a2 aW (qf i (a base) (a3 (pv 1) (f_ rfl c.MOST_WORDS) (pv 0)))))) (ac (bH (qf i (e base) (a2 aW (qf i (a base) (a3 (pv 2) (f_ rfl c.MOST_ROOMS) (bm da)))))) (ag (bH (qf i (e base) (a2 aW (qf i (f base) (a3 (pv 3) (pv 2) (qf i (g base) (a2 (pv 0) (pv 1))))))))))))) (by walk_at "b")
theorem qd:iw P w K mg:=fun base=>dG X G T.f_doors_by_start (fun S _ _ _ _ _ _ _ _ _ e a h=>bK (qE h) (ac (qs 2 S qH) (ac (bN bw rfl (aU (pv 0)) (gn 3 S) (ag (gV a (pv 2) (pv 3) (bm da) rfl))) (ac (bN bw rfl (aU (pv 1)) (gn 4 S) (ag (bH (jq fQ iL iK dg (kZ a (pv 2) (xq (pv 4) af) (fun _ _=>rfl)) (a1 (pv 4)))))) (ag (au (pv 2))))))) (by walk_at "b")
theorem qb:iu P w K mg:=fun base=>dG X G T.f_has_asks_alone (fun S _ _ _ _ _ _ _ _ _ a e h=>bK (qD h) (ag (au (qB (tE rfl) z.all boot_all (a1 (qc (aU (pv 0)) (aJ (by decide)) fun _ _ _ _ _ _=>⟨gc 0,bO,Hh eO (xq (xq (pv 0) af) af) aW⟩)))))) (by walk_at "b")
theorem Db(l:kF P w K mg)(a:dC P w K mg)(i:jA P w K mg)(e:hV P w K mg)(k:jO P w K mg)(j:lr P w K mg)(f:iw P w K mg)(g:iu P w K mg):sR P w K mg C:=fun base=>dN c.cm c.makes c.kc T.f_Machine___init__ (fun S _ _ _ _ _ _ _ _ _ m n h=>bK (Ki c.mc h) (ac (bH (qf m (j base) (aX (pv 1) (a3 (pv 2) (pv 3) (pv 4))))) (ac (ig (pv 0) (qL rfl z.list (a1 (pv 1))) rfl) (ac (ig (pv 0) (qL rfl z.list (a1 (pv 2))) rfl) (ac (ig (pv 0) (qL rfl z.list (a1 (pv 3))) rfl) (ac (ig (pv 0) (qL rfl z.list (a1 (pv 4))) rfl) (ac (ig (pv 0) (qf m (f base) (a2 (pv 3) (pv 4))) rfl) (ac (ig (pv 0) (qf m (l base) (a1 (qc (aU (pv 3)) (aJ (by decide)) fun _ _ _ _ _ _=>⟨gc 0,iB (mE (qf m (g base) (a1 (kZ n (eI (pv 1) rfl) (pv 0) (fun _ _=>rfl))))),pv 0⟩))) rfl) (ac (ig (pv 0) (qf m (a base) (a1 (pv 4))) rfl) (ac (ig (pv 0) (df (AH rfl) rfl z.dict DU (a1 (qc (aU (pv 3)) (aJ (by decide)) fun _ _ _ _ _ _=>⟨gc 0,bO,aG (a2 (pv 0) (qf m (i base) (a2 (eI (pv 1) rfl) (pv 0))))⟩))) rfl) (ag (bH (qf m (k base) (a2 aW (qf m (e base) (a2 (pv 3) (eI (pv 0) rfl))))))))))))))))) (by walk_at "b")
theorem vm(a:sR P w K mg C):oE P w K mg C:=fun base=>dG X G T.f_law_machine (fun S _ _ _ _ _ _ _ _ _ e f h=>bK (Dk h) (ag (au (Ac (a base) (e.mono (by decide)) rfl (aX (qL rfl z.list (a1 (xq (pv 0) af))) (a3 (qL rfl z.list (a1 (xq (pv 0) af))) (qL rfl z.list (a1 (xq (pv 0) af))) (qL rfl z.list (a1 (xq (pv 0) af))))))))) (by walk_at "b")
theorem rY:gi P w K mg C:=fun base=>dM c.mc.cls T.f_Machine_rooms (fun S _ _ _ _ _ _ _ _ _ a e h=>bK (HF c.mc h) (ag (au (qL rfl z.list (a1 (eI (pv 0) rfl)))))) (by walk_at "b")
theorem nU:gA P w K mg C:=fun base=>dM c.mc.cls T.f_Machine_led_from (fun S _ _ _ _ _ _ _ _ _ e a h=>bK (BI c.mc h) (ag (au (qL rfl z.list (a1 (vE a (eI (pv 0) rfl) (pv 1) (aG da) ⟨rfl,rfl,rfl,rfl⟩)))))) (by walk_at "b")
theorem wH(e:gi P w K mg C)(a:gA P w K mg C):i5 P w K mg C:=fun base=>dG X G T.f_with_still (fun S _ _ _ _ _ _ _ _ _ g f h=>bK (wU h) (ac (qs 2 S qH) (ac (bN bw rfl (aU (pv 1)) (gn 3 S) (ag (bD (dL (gH f (pv 3) (pv 2))) (ac (gV f (pv 2) (pv 3) qI rfl) (ag (bN bw rfl (aU (qm g (a base) (pv 0) (a1 (pv 3)))) (gn 4 S) (ag (gV f (pv 2) (pv 4) qI rfl))))) aH))) (ag (au (df cJ rfl z.tuple de (a1 (qc (aU (LJ g (e base) (pv 0))) (aJ (by decide)) fun _ _ _ _ _ _=>⟨gc 0,iB (dL (vG f (pv 0) (pv 1))),pv 0⟩)))))))) (by walk_at "b")
theorem rZ:iS P w K mg C:=fun base=>dM c.mc.cls T.f_Machine_goals (fun S _ _ _ _ _ _ _ _ _ e a h=>bK (FW c.mc h) (ag (au (qL rfl z.list (a1 (vE a (eI (pv 0) rfl) (aG (a2 (pv 1) (pv 2))) (aG da) ⟨rfl,rfl,rfl,rfl⟩)))))) (by walk_at "b")
theorem nV:gB P w K mg C:=fun base=>dM c.mc.cls T.f_Machine_is_quiet (fun S _ _ _ _ _ _ _ _ _ e a h=>bK (BJ c.mc h) (ag (au (LQ (vG a (pv 1) (eI (pv 0) rfl)))))) (by walk_at "b")
theorem tX:hC P w K mg:=fun base=>dG X G T.f_law_still_on (fun S _ _ _ _ _ _ _ _ _ e a h=>bK (BG h) (ac (qs 2 S (qL rfl z.list (a1 (pv 1)))) (ac (qs 3 S af) (ac (qF bw (iW BS (pv 3) (ql z.len (a1 (pv 2)))) (ac (bN bw rfl (aU (pv 0)) (cU rfl (av (gn 4 S) (av (gn 5 S) (av (gn 6 S) cg)))) (ag (bD (PW.pt (Aa (iW (k6 a) (pv 4) (xq (pv 2) (pv 3))) (Aa (iW (k6 a) (pv 5) (aG (a1 aW))) (z_ (Lz (nC a) (pv 6) (pv 2)))))) (ag (bH (jq fQ iL iK dg (pv 2) (a1 (pv 6))))) aH))) (ag (qs 3 S (aE cD (pv 3) af))))) (ag (au (pv 2))))))) (by walk_at "b")
theorem tT:hZ P w K mg C:=fun base=>dM c.mc.cls T.f_Machine_asks (fun S _ _ _ _ _ _ _ _ _ a e h=>bK (Kl c.mc h) (ag (au (qL rfl z.list (a1 (eI (pv 0) rfl)))))) (by walk_at "b")
theorem tS:fF P w K mg C:=fun base=>dM c.mc.cls T.f_Machine_says (fun S _ _ _ _ _ _ _ _ _ a e h=>bK (Kb c.mc h) (ag (au (qL rfl z.list (a1 (eI (pv 0) rfl)))))) (by walk_at "b")
theorem wQ(a:gi P w K mg C)(e:i5 P w K mg C):i8 P w K mg C:=fun base=>dG X G T.f_first_face (fun S _ _ _ _ _ _ _ _ _ f g h=>bK (wX h) (ag (au (qf f (e base) (a2 (pv 0) (cY fI (LJ f (a base) (pv 0)) fg (du af))))))) (by walk_at "b")
theorem vn(f:i5 P w K mg C)(e:iS P w K mg C)(a:gB P w K mg C):jY P w K mg C:=fun base=>dG X G T.f_face_behind (fun S _ _ _ _ _ _ _ _ _ g i h=>bK (Kj c.hush h) (ac (bD (iW (k6 i) (pv 2) (f_ rfl c.HUSH)) (ag (au (df cJ rfl z.tuple de (a1 (qc (pj (pv 1)) (aJ (by decide)) fun _ _ _ _ _ _=>⟨gc 0,iB (mE (qm g (a base) (pv 1) (a1 (pv 0)))),pv 0⟩))))) aH) (ac (qs 3 S (bm da)) (ac (bN bw rfl (pj (pv 1)) (gn 4 S) (ag (bH (jq fQ PySem.F.slot_list_extend PySem.F.type_list_extend Gp (pv 3) (a1 (qm g (e base) (pv 0) (a2 (pv 4) (pv 2)))))))) (ag (au (qf g (f base) (a2 (pv 0) (pv 3))))))))) (by walk_at "b")
theorem p8(a:hZ P w K mg C)(e:fF P w K mg C):ip P w K mg C a_HUSH:=fun base=>dG X G T.f_signs_in_order (fun S _ _ _ _ _ _ _ _ _ f g h=>bK (LB h) (ag (au (aE fD (aE fD (qc (aU (LJ f (a base) (pv 0))) (aJ (by decide)) fun _ _ _ _ _ _=>⟨gc 0,bO,aG (a2 aW (pv 0))⟩) (qc (aU (LJ f (e base) (pv 0))) (aJ (by decide)) fun _ _ _ _ _ _=>⟨gc 0,bO,aG (a2 aW (pv 0))⟩)) (bm (a1 (f_ rfl c.HUSH))))))) (by walk_at "b")
theorem Bv(e:jY P w K mg C)(a:ip P w K mg C a_HUSH):pL P w K mg C:=fun base=>dG X G T.f_steps_at (fun S _ _ _ _ _ _ _ _ _ f g h=>bK (Dj c.hush h) (ac (qs 2 S km) (ac (bN bw rfl (aU (qf f (a base) (a1 (pv 0)))) (gn 3 S) (ac (qs 4 S (qf f (e base) (a3 (pv 0) (pv 1) (pv 3)))) (ag (bD (iW xG (ql z.len (a1 (pv 4))) af) (ag (Ib g (pv 2) (pv 3) (pv 4) rfl)) aH)))) (ag (au (pv 2)))))) (by walk_at "b")
theorem wS:lD P w K mg Ck:=fun base=>dN c.cmksc c.makesksc c.kcksc T.f_KnownSteps___init__ (fun S _ _ _ _ _ _ _ _ _ a e h=>bK (F0 c.ksc h) (ac (ig (pv 0) (pv 1) rfl) (ag (ig (pv 0) km rfl)))) (by walk_at "b")
theorem jS(a:pL P w K mg C):eB P w K mg C Ck:=fun base=>dM c.ksc.cls T.f_KnownSteps_steps_from (fun S _ _ _ _ _ _ _ _ _ f e h=>bK (F1 c.ksc h) (ac (bD (dL (gH e (pv 1) (eI (pv 0) rfl))) (ag (gV e (eI (pv 0) rfl) (pv 1) (qf f (a base) (a2 (eI (pv 0) rfl) (pv 1))) rfl)) aH) (ag (au (kZ e (eI (pv 0) rfl) (pv 1) (fun _ _=>rfl)))))) (by walk_at "b")
theorem wL:i6 P w K mg:=fun base=>dG X G T.f_need_depth (fun S _ _ _ _ _ _ _ _ _ a e h=>bK (wW (K:=K) h) (ag (bD (PW.pt (jJ (iW BS (pv 0) af) (jT (iW xG (pv 0) (f_ rfl c.DEEPEST))))) (ag (mF)) aH))) (by walk_at "b")
theorem C3:nP P w K mg:=fun base=>dG X G T.f_product (fun S _ _ _ _ _ _ _ _ _ a e h=>bK (vv h) (ac (qs 1 S af) (ac (bN bw rfl (aU (pv 0)) (gn 2 S) (ag (qs 1 S (aE qJ (pv 1) (pv 2))))) (ag (au (pv 1)))))) (by walk_at "b")
theorem JO(a:fF P w K mg C)(e:lD P w K mg Ck):A8 P w K mg C Ck Cd:=fun base=>dN c.cmdc c.makesdc c.kcdc T.f_Made___init__ (fun S _ _ _ _ _ _ _ _ _ f g h=>bK (FX c.dc h) (ac (ig (pv 0) (qc (aU (LJ f (a base) (pv 1))) (aJ (by decide)) fun _ _ _ _ _ _=>⟨gc 0,bO,aG (a2 aW (pv 0))⟩) rfl) (ac (ig (pv 0) (Ac (e base) (f.mono (by decide)) rfl (a1 (pv 1))) rfl) (ag (ig (pv 0) km rfl))))) (by walk_at "b")
theorem o8(a:eB P w K mg C Ck):cy P w K mg C Ck Cd:=fun base=>dM c.dc.cls T.f_Made_steps_from (fun S _ _ _ _ _ _ _ _ _ e f h=>bK (FY c.dc h) (ag (au (qm e (a base) (eI (pv 0) rfl) (a1 (pv 1)))))) (by walk_at "b")
theorem rV(a:cy P w K mg C Ck Cd):eS P w K mg C Ck Cd:=fun base=>dM c.dc.cls T.f_Made_kinds_at (fun S _ _ _ _ _ _ _ _ _ e f h=>bK (FV c.dc c.hush h) (ac (Mv 2 S (Ih (qm e (a base) (pv 0) (a1 (pv 1)))) (aJ (by decide)) fun _ _ _ _ _ _=>⟨gc 0,iB (iW eO (xq (pv 0) af) aW),pv 0⟩) (ag (au (aE fD (qc (aU (pv 2)) (aJ (by decide)) fun _ _ _ _ _ _=>⟨gc 0,bO,aE fD (bm (a1 (pv 0))) (eI (pv 1) rfl)⟩) (bm (a1 (aE fD (eI (pv 0) rfl) (bm (a1 (f_ rfl c.HUSH))))))))))) (by walk_at "b")
theorem rX(k:nP P w K mg)(g:cy P w K mg C Ck Cd)(j:eS P w K mg C Ck Cd):dD P w K mg C Ck Cd:=fun base=>by
  have E0:oj P w K mg base Cd "count_of" ["self","face","d","signs"] 7 Df:=by
   obtain⟨f,a,i,t⟩:=T.f_Made_count_of;obtain⟨v,F⟩:=t.fun_;exact⟨f,v,xH,c.dc.cls,⟨a,i,F.kp⟩,F.binds (ps:=["self","face","d","signs"]) (by walk_at "b")⟩
  have o:∀(n D:Nat) (s:Sp),7<=n->D<=4->(∀m,D=m+1->s=(iE K C Ck Cd m))->oj P w K mg base Cd "count_of" ["self","face","d","signs"] n s->oj P w K mg base Cd "count_at" ["self","face","d"] (n+1) (gS C Ck Cd D):=fun n D s q x y u=>dM c.dc.cls T.f_Made_count_at (fun S _ _ _ _ _ _ _ _ _ l p h=>bK (HM c.dc x y h) (ac (bD (PW.pt (jJ (dL (mH (pv 1))) (jT (iW eO (pv 2) af)))) (ag (au af)) aH) (ac (bD (dL (gH p (aG (a2 (pv 1) (pv 2))) (eI (pv 0) rfl))) (ac (Mv 3 S (aU (qm (k0:=7) (l.mono (aD (by decide) q)) (j base) (pv 0) (a1 (pv 1)))) (aJ (by decide)) fun _ _ _ _ _ _=>⟨gc 0,bO,qm (hk:=aB _) l u (pv 3) (a3 (pv 1) (pv 2) (pv 0))⟩) (ag (gV p (eI (pv 0) rfl) (aG (a2 (pv 1) (pv 2))) (aE cD af (qB (GP rfl) z.sum boot_sum (a1 (pv 3)))) rfl))) aH) (ag (au (kZ p (eI (pv 0) rfl) (aG (a2 (pv 1) (pv 2))) (fun _ _=>rfl))))))) (by walk_at "b");have r:∀n D:Nat,7<=n->oj P w K mg base Cd "count_at" ["self","face","d"] n (gS C Ck Cd D)->oj P w K mg base Cd "count_of" ["self","face","d","signs"] (n+1) (iE K C Ck Cd D):=fun n D q u=>dM c.dc.cls T.f_Made_count_of (fun S _ _ _ _ _ _ _ _ _ l p h=>bK (BK h) (ac (qs 4 S (qm (k0:=6) (l.mono (aD (by decide) q)) (g base) (pv 0) (a1 (pv 1)))) (ag (au (qf (k0:=1) (l.mono (aD (by decide) q)) (k base) (a1 (qc (aU (pv 3)) (aJ (by decide)) fun _ _ _ _ _ _=>⟨gc 0,bO,qm (hk:=aB _) l u (pv 1) (a2 (ko p (pv 3) (pv 0) ⟨rfl,rfl,rfl,rfl⟩) (aE jU (pv 2) af))⟩))))))) (by walk_at "b");have A:=o 7 0 _ (by decide) (by decide) (fun m e=>by cases e) E0;have B:=r 8 0 (by decide) A;have E:=o 9 1 _ (by decide) (by decide) (fun m e=>by cases e;rfl) B;have H:=r 10 1 (by decide) E;have I:=o 11 2 _ (by decide) (by decide) (fun m e=>by cases e;rfl) H;have J:=r 12 2 (by decide) I;have L:=o 13 3 _ (by decide) (by decide) (fun m e=>by cases e;rfl) J;have M:=r 14 3 (by decide) L;have N:=o 15 4 _ (by decide) (by decide) (fun m e=>by cases e;rfl) M;exact N
theorem rW(f:nP P w K mg)(a:cy P w K mg C Ck Cd)(e:dD P w K mg C Ck Cd):gh P w K mg C Ck Cd:=fun base=>dM c.dc.cls T.f_Made_count_of (fun S _ _ _ _ _ _ _ _ _ g i h=>bK (BK h) (ac (qs 4 S (qm g (a base) (pv 0) (a1 (pv 1)))) (ag (au (qf g (f base) (a1 (qc (aU (pv 3)) (aJ (by decide)) fun _ _ _ _ _ _=>⟨gc 0,bO,qm g (e base) (pv 1) (a2 (ko i (pv 3) (pv 0) ⟨rfl,rfl,rfl,rfl⟩) (aE jU (pv 2) af))⟩))))))) (by walk_at "b")
theorem wI:lm P w K mg:=fun base=>dG X G T.f_trial_from (fun S _ _ _ _ _ _ _ _ _ a e h=>bK (FP h) (ac (bD (iW eO (xt (xl (pv 0) af) af) aW) (ac (Mv 2 S (EF rfl z.zip (a2 (cY fI (pv 0) (du af) fg) (cY fI (pv 1) (du af) fg))) (k5 (cP (aJ (by decide)) bE (cP (aJ (by decide)) bE (jr) (cQ)) (gp bE (cQ)))) fun _ _ _ _ _ _=>⟨cU rfl (av (gc 0) (av (gc 1) cg)),bO,aG (a2 (xq (pv 0) af) (pv 1))⟩) (ag (au (aG (aX aW (a3 (xt (xl (pv 0) af) af) (xl (pv 1) af) (df cJ rfl z.tuple de (a1 (pv 2))))))))) aH) (ac (Mv 2 S (EF rfl z.zip (a2 (cY fI (pv 0) fg (du (BP u9 af))) (cY fI (pv 1) fg (du (BP u9 af))))) (k5 (cP (aJ (by decide)) bE (cP (aJ (by decide)) bE (jr) (cQ)) (gp bE (cQ)))) fun _ _ _ _ _ _=>⟨cU rfl (av (gc 0) (av (gc 1) cg)),bO,aG (a2 (xq (pv 0) af) (pv 1))⟩) (ag (au (aG (a3 aW (df cJ rfl z.tuple de (a1 (pv 2))) (xl (pv 1) (BP u9 af))))))))) (by walk_at "b")
theorem rT(j:cy P w K mg C Ck Cd)(k:eS P w K mg C Ck Cd)(l:dD P w K mg C Ck Cd)(g:gh P w K mg C Ck Cd)(o:lm P w K mg):iR P w K mg C Ck Cd:=fun base=>by
  have E0:oj P w K mg base Cd "trial_of" ["self","face","d","signs","number"] 17 Df:=by
   obtain⟨f,a,i,t⟩:=T.f_Made_trial_of;obtain⟨y,F⟩:=t.fun_;exact⟨f,y,xH,c.dc.cls,⟨a,i,F.kp⟩,F.binds (ps:=["self","face","d","signs","number"]) (by walk_at "b")⟩
  have r:∀(n D:Nat) (u:Sp),17<=n->D<=4->(∀m,D=m+1->u=(qh K C Ck Cd m))->oj P w K mg base Cd "trial_of" ["self","face","d","signs","number"] n u->oj P w K mg base Cd "trial_at" ["self","face","d","number"] (n+1) (kP K C Ck Cd D):=fun n D u q A B v=>dM c.dc.cls T.f_Made_trial_at (fun S _ _ _ _ _ _ _ _ _ p x h=>bK (Ke c.dc c.blm c.enD A B h) (ac (bD (dL (mH (pv 1))) (ag (au (f_ rfl c.BLAME))) aH) (ac (bD (iW eO (pv 3) af) (ag (au (f_ rfl c.END))) aH) (ac (qs 4 S (aE jU (pv 3) af)) (ac (qs 5 S (qm (k0:=7) (p.mono (aD (by decide) q)) (k base) (pv 0) (a1 (pv 1)))) (ac (qs 6 S af) (ac (qF bw (iW Iq (pv 4) (qm (k0:=17) (p.mono (aD (by decide) q)) (g base) (pv 0) (a3 (pv 1) (pv 2) (xl (pv 5) (pv 6))))) (ac (Ds (i:=4) S rfl (Or.inl rfl) (qm (k0:=17) (p.mono (aD (by decide) q)) (g base) (pv 0) (a3 (pv 1) (pv 2) (xl (pv 5) (pv 6)))) LV) (ag (Ds (i:=6) S rfl (Or.inl rfl) af IP)))) (ag (au (qm (hk:=aB _) p v (pv 0) (aX (pv 1) (a3 (pv 2) (xl (pv 5) (pv 6)) (pv 4))))))))))))) (by walk_at "b");have s:∀n D:Nat,17<=n->oj P w K mg base Cd "trial_at" ["self","face","d","number"] n (kP K C Ck Cd D)->oj P w K mg base Cd "trial_of" ["self","face","d","signs","number"] (n+1) (qh K C Ck Cd D):=fun n D q v=>dM c.dc.cls T.f_Made_trial_of (fun S _ _ _ _ _ _ _ _ _ p x h=>bK (Kd h) (ac (qs 5 S (qm (k0:=6) (p.mono (aD (by decide) q)) (j base) (pv 0) (a1 (pv 1)))) (ac (qs 6 S (bm da)) (ac (qs 7 S (pv 4)) (ac (bN bw rfl (Ig rfl z.reversed (a1 (pv 3))) (gn 8 S) (ac (ii (qB AG z.divmod boot_divmod (a2 (pv 7) (qm (k0:=16) (p.mono (aD (by decide) q)) (l base) (pv 0) (a2 (ko x (pv 5) (pv 8) ⟨rfl,rfl,rfl,rfl⟩) (aE jU (pv 2) af))))) (cU rfl (av (gn 7 S) (av (gn 9 S) cg)))) (ag (bH (jq fQ iL iK dg (pv 6) (a1 (qm (hk:=aB _) p v (pv 0) (a3 (ko x (pv 5) (pv 8) ⟨rfl,rfl,rfl,rfl⟩) (aE jU (pv 2) af) (pv 9))))))))) (ac (bH (Du fQ PySem.F.slot_list_reverse PySem.F.type_list_reverse Dw (pv 6))) (ag (au (qf (k0:=1) (p.mono (aD (by decide) q)) (o base) (a2 (pv 3) (pv 6))))))))))) (by walk_at "b");have E:=r 17 0 _ (by decide) (by decide) (fun m e=>by cases e) E0;have H:=s 18 0 (by decide) E;have I:=r 19 1 _ (by decide) (by decide) (fun m e=>by cases e;rfl) H;have J:=s 20 1 (by decide) I;have L:=r 21 2 _ (by decide) (by decide) (fun m e=>by cases e;rfl) J;have M:=s 22 2 (by decide) L;have N:=r 23 3 _ (by decide) (by decide) (fun m e=>by cases e;rfl) M;have O:=s 24 3 (by decide) N;have Q:=r 25 4 _ (by decide) (by decide) (fun m e=>by cases e;rfl) O;exact Q
theorem C4(a:i8 P w K mg C)(g:i6 P w K mg)(i:A8 P w K mg C Ck Cd)(e:dD P w K mg C Ck Cd)(f:iR P w K mg C Ck Cd):yn P w K mg C:=fun base=>dG X G T.f_made_by (fun S _ _ _ _ _ _ _ _ _ j k h=>bK (FZ (K:=K) c.dc h) (ac (bH (qf j (g base) (a1 (pv 1)))) (ac (qs 3 S (Ac (i base) (j.mono (by decide)) rfl (a1 (pv 0)))) (ac (bD (PW.pt (jJ (iW BS (pv 2) af) (jT (iW Iq (pv 2) (qm j (e base) (pv 3) (a2 (qf j (a base) (a1 (pv 0))) (pv 1))))))) (ag (mF)) aH) (ag (au (qm j (f base) (pv 3) (a3 (qf j (a base) (a1 (pv 0))) (pv 1) (pv 2))))))))) (by walk_at "b")
theorem C8:nR P w K mg:=fun base=>dG X G T.f_is_tell (fun S _ _ _ _ _ _ _ _ _ a e h=>bK (Ga h) (ag (au (vF (Hh eO (ql z.len (a1 (pv 0))) af) (vD (Hh eO (xt (pv 0) af) aW)))))) (by walk_at "b")
theorem C7:nQ P w K mg:=fun base=>dG X G T.f_is_wait (fun S _ _ _ _ _ _ _ _ _ a e h=>bK (F_ h) (ag (au (vF (Hh eO (ql z.len (a1 (pv 0))) af) (vD (Hh eO (xt (pv 0) af) aW)))))) (by walk_at "b")
theorem p9:iq P w K mg:=fun base=>dG X G T.f_says_and_parts (fun S _ _ _ _ _ _ _ _ _ a e h=>bK (zY h) (ag (au (qc (pj (pv 0)) (k5 (cP (aJ (by decide)) bE (cP (aJ (by decide)) bE (jr) (cQ)) (gp bE (cQ)))) fun _ _ _ _ _ _=>⟨cU rfl (av (gc 0) (av (gc 1) cg)),bO,aG (a2 (aG (a2 aW (pv 0))) (pv 1))⟩)))) (by walk_at "b")
theorem tU(e:nR P w K mg)(f:nQ P w K mg)(a:iq P w K mg):g_ P w K mg:=fun base=>dG X G T.f_signed_parts (fun S _ _ _ _ _ _ _ _ _ g i h=>bK (FR c.hush h) (ac (bD (mE (qf g (e base) (a1 (pv 0)))) (ag (au (aE fD (bm (a1 (aG (a2 (aG (a2 aW (xt (pv 0) af))) (xt (pv 0) af))))) (qf g (a base) (a1 (xt (pv 0) af)))))) aH) (ac (bD (mE (qf g (f base) (a1 (pv 0)))) (ag (au (aE fD (qf g (a base) (a1 (xt (pv 0) af))) (bm (a1 (aG (a2 (f_ rfl c.HUSH) (xt (pv 0) af)))))))) aH) (ag (au (bm da)))))) (by walk_at "b")
theorem tV(a:g_ P w K mg):jz P w K mg:=fun base=>dG X G T.f_parts_behind (fun S _ _ _ _ _ _ _ _ _ e f h=>bK (FT h) (ac (qs 3 S (bm da)) (ac (bN bw rfl (nA rfl z.enumerate (a1 (qf e (a base) (a1 (pv 2))))) (cU rfl (av (gn 4 S) (av (gn 5 S) cg))) (ac (ii (pv 5) (cU rfl (av (gn 6 S) (av (gn 7 S) cg)))) (ag (bH (jq fQ iL iK dg (pv 3) (a1 (aG (a3 (aE Kz (pv 0) (aG (a1 (pv 4)))) (aE fD (pv 1) (bm (a1 (pv 6)))) (pv 7))))))))) (ag (au (pv 3)))))) (by walk_at "b")
theorem zC(a:jz P w K mg):mV P w K mg:=fun base=>dG X G T.f_with_ways (fun S _ _ _ _ _ _ _ _ _ e f h=>bK (BF h) (ac (qs 1 S (bm da)) (ac (qs 2 S (bm (a1 (aG (a3 (aG da) (bm da) (pv 0)))))) (ac (qF bw (iW xG (ql z.len (a1 (pv 2))) af) (ac (ii (Du fQ PySem.F.slot_list_pop PySem.F.type_list_pop IE (pv 2)) (cU rfl (av (gn 3 S) (av (gn 4 S) (av (gn 5 S) cg))))) (ac (bH (jq fQ iL iK dg (pv 1) (a1 (aG (a3 (pv 3) (pv 4) (pv 5)))))) (ac (bN bw rfl (Ig rfl z.reversed (a1 (qf e (a base) (a3 (pv 3) (pv 4) (pv 5))))) (gn 6 S) (ag (bH (jq fQ iL iK dg (pv 2) (a1 (pv 6)))))) (ag (bD (PW.pt (jJ (iW eO (ql z.len (a1 (pv 3))) (f_ rfl c.MOST_WITHIN)) (jT (iW xG (aE cD (ql z.len (a1 (pv 1))) (ql z.len (a1 (pv 2)))) (f_ rfl c.MOST_TRIALS))))) (ag (mF)) aH)))))) (ag (au (pv 1))))))) (by walk_at "b")
theorem mr(a:fF P w K mg C):fV P w K mg C:=fun base=>dG X G T.f_has_says_in_order (fun S _ _ _ _ _ _ _ _ _ e f h=>bK (Dm h) (ag (au (Hh (k6 f) (qc (pj (pv 1)) (k5 (cP (aJ (by decide)) bE (cP (aJ (by decide)) bE (jr) (cQ)) (gp bE (cQ)))) fun _ _ _ _ _ _=>⟨cU rfl (av (gc 0) (av (gc 1) cg)),bO,pv 0⟩) (LJ e (a base) (pv 0)))))) (by walk_at "b")
theorem o9(e:hZ P w K mg C)(f:nR P w K mg)(g:nQ P w K mg)(a:fV P w K mg C):hJ P w K mg C:=fun base=>dG X G T.f_is_so_by_itself (fun S _ _ _ _ _ _ _ _ _ i j h=>bK (Kh c.blm c.enD h) (ac (bD (mE (qf i (f base) (a1 (pv 1)))) (ag (au (vF (eci (Ad j) (xt (pv 1) af) (LJ i (e base) (pv 0))) (vD (qf i (a base) (a2 (pv 0) (xt (pv 1) af))))))) aH) (ac (bD (mE (qf i (g base) (a1 (pv 1)))) (ag (au (qf i (a base) (a2 (pv 0) (xt (pv 1) af))))) aH) (ag (au (Mw (Hh (k6 j) (pv 1) (f_ rfl c.END)) (vD (Hh (k6 j) (pv 1) (f_ rfl c.BLAME))))))))) (by walk_at "b")
theorem mv(e:mV P w K mg)(a:hJ P w K mg C):fW P w K mg C:=fun base=>dG X G T.f_checked_with_ways (fun S _ _ _ _ _ _ _ _ _ f g h=>bK (Dn h) (ac (qs 2 S (qf f (e base) (a1 (pv 1)))) (ac (bN bw rfl (aU (pv 2)) (cU rfl (av (gn 3 S) (av (gn 4 S) (av (gn 5 S) cg)))) (ag (bD (H_ (mE (qf f (a base) (a2 (pv 0) (pv 5))))) (ag (mF)) aH))) (ag (au (pv 2)))))) (by walk_at "b")
theorem wJ(a:fW P w K mg C):ln P w K mg C:=fun base=>dG X G T.f_need_trial (fun S _ _ _ _ _ _ _ _ _ e f h=>bK (FU (K:=K) h) (ag (bH (qf e (a base) (a2 (pv 0) (pv 1)))))) (by walk_at "b")
theorem p7(j:cy P w K mg C Ck Cd)(k:eS P w K mg C Ck Cd)(l:dD P w K mg C Ck Cd)(o:gh P w K mg C Ck Cd)(g:g_ P w K mg):iz P w K mg C Ck Cd:=fun base=>by
  have E0:oj P w K mg base Cd "number_of_kind" ["self","face","d","trial"] 17 Df:=by
   obtain⟨f,a,i,t⟩:=T.f_Made_number_of_kind;obtain⟨y,F⟩:=t.fun_;exact⟨f,y,xH,c.dc.cls,⟨a,i,F.kp⟩,F.binds (ps:=["self","face","d","trial"]) (by walk_at "b")⟩
  have s:∀(n D:Nat) (v:Sp),17<=n->D<=4->(∀m,D=m+1->v=(mB K C Ck Cd m))->oj P w K mg base Cd "number_of_kind" ["self","face","d","trial"] n v->oj P w K mg base Cd "number_at" ["self","face","d","trial"] (n+1) (pf K C Ck Cd D):=fun n D v q A B x=>dM c.dc.cls T.f_Made_number_at (fun S _ _ _ _ _ _ _ _ _ p r h=>bK (LD c.blm c.enD A B h) (ac (bD (dL (mH (pv 1))) (ag (au (BQ (iW (sf r) (pv 3) (f_ rfl c.BLAME)) af gm))) aH) (ac (bD (iW (sf r) (pv 3) (f_ rfl c.END)) (ag (au af)) aH) (ac (bD (iW eO (pv 2) af) (ag (au gm)) aH) (ac (qs 4 S af) (ac (bN bw rfl (aU (qm (k0:=7) (p.mono (aD (by decide) q)) (k base) (pv 0) (a1 (pv 1)))) (gn 5 S) (ac (bD (iW (sf r) (pv 5) (qc (aU (qf (k0:=2) (p.mono (aD (by decide) q)) (g base) (a1 (pv 3)))) (k5 (cP (aJ (by decide)) bE (cP (aJ (by decide)) bE (jr) (cQ)) (gp bE (cQ)))) fun _ _ _ _ _ _=>⟨cU rfl (av (gc 0) (av (gc 1) cg)),bO,pv 0⟩)) (ac (qs 6 S (qm (hk:=aB _) p x (pv 0) (a3 (pv 1) (pv 2) (pv 3)))) (ag (au (BQ (dL (mH (pv 6))) gm (aE cD (pv 4) (pv 6)))))) aH) (ag (Ds (i:=4) S rfl (Or.inl rfl) (qm (k0:=17) (p.mono (aD (by decide) q)) (o base) (pv 0) (a3 (pv 1) (pv 2) (pv 5))) IP)))) (ag (au gm)))))))) (by walk_at "b");have u:∀n D:Nat,17<=n->oj P w K mg base Cd "number_at" ["self","face","d","trial"] n (pf K C Ck Cd D)->oj P w K mg base Cd "number_of_kind" ["self","face","d","trial"] (n+1) (mB K C Ck Cd D):=fun n D q x=>dM c.dc.cls T.f_Made_number_of_kind (fun S _ _ _ _ _ _ _ _ _ p r h=>bK (HJ h) (ac (qs 4 S (qm (k0:=6) (p.mono (aD (by decide) q)) (j base) (pv 0) (a1 (pv 1)))) (ac (qs 5 S af) (ac (bN bw rfl (aU (qf (k0:=2) (p.mono (aD (by decide) q)) (g base) (a1 (pv 3)))) (cU rfl (av (gn 6 S) (av (gn 7 S) cg))) (ac (qs 8 S (qm (hk:=aB _) p x (pv 0) (a3 (ko r (pv 4) (pv 6) ⟨rfl,rfl,rfl,rfl⟩) (aE jU (pv 2) af) (pv 7)))) (ac (bD (dL (mH (pv 8))) (ag (au gm)) aH) (ag (qs 5 S (aE cD (aE qJ (pv 5) (qm (k0:=16) (p.mono (aD (by decide) q)) (l base) (pv 0) (a2 (ko r (pv 4) (pv 6) ⟨rfl,rfl,rfl,rfl⟩) (aE jU (pv 2) af)))) (pv 8))))))) (ag (au (pv 5))))))) (by walk_at "b");have E:=s 17 0 _ (by decide) (by decide) (fun m e=>by cases e) E0;have H:=u 18 0 (by decide) E;have I:=s 19 1 _ (by decide) (by decide) (fun m e=>by cases e;rfl) H;have J:=u 20 1 (by decide) I;have L:=s 21 2 _ (by decide) (by decide) (fun m e=>by cases e;rfl) J;have M:=u 22 2 (by decide) L;have N:=s 23 3 _ (by decide) (by decide) (fun m e=>by cases e;rfl) M;have O:=u 24 3 (by decide) N;have Q:=s 25 4 _ (by decide) (by decide) (fun m e=>by cases e;rfl) O;exact Q
theorem zD(e:i8 P w K mg C)(f:i6 P w K mg)(i:A8 P w K mg C Ck Cd)(g:ln P w K mg C)(a:iz P w K mg C Ck Cd):tH P w K mg C:=fun base=>dG X G T.f_number_of (fun S _ _ _ _ _ _ _ _ _ j k h=>bK (HH (K:=K) (Cd:=Cd) h) (ac (bH (qf j (g base) (a2 (pv 0) (pv 2)))) (ac (bH (qf j (f base) (a1 (pv 1)))) (ag (au (qm j (a base) (Ac (i base) (j.mono (by decide)) rfl (a1 (pv 0))) (a3 (qf j (e base) (a1 (pv 0))) (pv 1) (pv 2)))))))) (by walk_at "b")
theorem wP(a:hC P w K mg):lA P w K mg:=fun base=>dG X G T.f_law_behind (fun S _ _ _ _ _ _ _ _ _ f e h=>bK (Kk h) (ac (ii (pv 0) (cU rfl (av (gn 3 S) (av (gn 4 S) (av (gn 5 S) (av (gn 6 S) cg)))))) (ac (bD (iW (k6 e) (pv 2) (aG (a1 aW))) (ac (qs 7 S (qc (aU (pv 6)) (aJ (by decide)) fun _ _ _ _ _ _=>⟨gc 0,iB (iW EK (xt (xt (pv 0) af) af) aW),xt (pv 0) af⟩)) (ag (au (df cJ rfl z.tuple de (a1 (qc (pj (pv 1)) (aJ (by decide)) fun _ _ _ _ _ _=>⟨gc 0,iB (Lz (nC e) (pv 0) (pv 1)),pv 0⟩)))))) aH) (ac (qs 8 S (qf f (a base) (a2 (pv 6) (qc (aU (pv 6)) (aJ (by decide)) fun _ _ _ _ _ _=>⟨gc 0,iB (PW.pt (Aa (Lz (Ad e) (xt (pv 0) af) (pv 1)) (z_ (iW (k6 e) (xt (pv 0) af) (pv 2))))),xt (pv 0) af⟩)))) (ag (au (df cJ rfl z.tuple de (a1 (qc (aU (pv 5)) (aJ (by decide)) fun _ _ _ _ _ _=>⟨gc 0,iB (Lz (Ad e) (pv 0) (pv 1)),pv 0⟩))))))))) (by walk_at "b")
theorem zM(a:hC P w K mg):tJ P w K mg:=fun base=>dG X G T.f_law_begin (fun S _ _ _ _ _ _ _ _ _ e f h=>bK (HP h) (ac (qs 1 S (qf e (a base) (a2 (xq (pv 0) af) (bm (a1 (xq (xq (pv 0) af) af)))))) (ag (au (df cJ rfl z.tuple de (a1 (qc (aU (xq (pv 0) af)) (aJ (by decide)) fun _ _ _ _ _ _=>⟨gc 0,iB (Lz (Ad f) (pv 0) (pv 1)),pv 0⟩))))))) (by walk_at "b")
theorem p_:eo P w K mg:=fun base=>dG X G T.f_law_part_signs (fun S _ _ _ _ _ _ _ _ _ a e h=>bK (HG h) (ac (Mv 2 S (aU (xq (pv 0) af)) (aJ (by decide)) fun _ _ _ _ _ _=>⟨gc 0,bO,aG (a2 aW (pv 0))⟩) (ac (bD (dL (mH (pv 1))) (ag (au (aE fD (pv 2) (bm (a1 (aG (a1 aW))))))) aH) (ag (au (aE fD (bm (a1 (aG (a2 aW (pv 1))))) (pv 2))))))) (by walk_at "b")
theorem zP(a:lA P w K mg):gL P w K mg:=fun base=>dG X G T.f_law_after (fun S _ _ _ _ _ _ _ _ _ f e h=>bK (HR h) (ac (bD (dL (gH e (aG (a2 (pv 2) (pv 3))) (pv 1))) (ag (gV e (pv 1) (aG (a2 (pv 2) (pv 3))) (qf f (a base) (a3 (pv 0) (pv 2) (pv 3))) rfl)) aH) (ag (au (kZ e (pv 1) (aG (a2 (pv 2) (pv 3))) (fun _ _=>rfl)))))) (by walk_at "b")
theorem zN(a:gL P w K mg):jQ P w K mg:=fun base=>dG X G T.f_law_asked (fun S _ _ _ _ _ _ _ _ _ e f h=>bK (HQ h) (ag (au (qc (aU (xq (pv 0) af)) (aJ (by decide)) fun _ _ _ _ _ _=>⟨gc 0,iB (iW (Ip f) (qf e (a base) (aX (pv 1) (a3 (pv 2) (pv 3) (aG (a2 aW (pv 0)))))) (aG da)),pv 0⟩)))) (by walk_at "b")
theorem zF:jP P w K mg:=fun base=>dG X G T.f_law_times (fun S _ _ _ _ _ _ _ _ _ a e h=>bK (HE h) (ac (qs 1 S af) (ac (bN bw rfl (aU (pv 0)) (gn 2 S) (ag (qs 1 S (aE qJ (pv 1) (pv 2))))) (ag (au (pv 1)))))) (by walk_at "b")
theorem zK(g:eo P w K mg)(i:gL P w K mg)(j:jQ P w K mg)(k:jP P w K mg):mZ P w K mg:=fun base=>by
  have E0:fN P w K mg base "_law_sizes" ["told","known","face","ask","deep"] 4 Df:=by
   obtain⟨f,a,t⟩:=T.f_law_sizes;obtain⟨v,F⟩:=t.fun_;exact⟨f,v,xH,d6 X G a,F.kp,F.binds (ps:=["told","known","face","ask","deep"]) (by walk_at "b")⟩
  have o:∀(n D:Nat) (s:Sp),4<=n->D<=4->(∀m,D=m+1->s=(jj K m))->fN P w K mg base "_law_sizes" ["told","known","face","ask","deep"] n s->fN P w K mg base "_law_count" ["told","known","face","deep"] (n+1) (kS K D):=fun n D s p x y u=>dG X G T.f_law_count (fun S _ _ _ _ _ _ _ _ _ l q h=>bK (Kg x y h) (ac (bD (PW.pt (jJ (iW (k6 q) (pv 2) (aG da)) (jT (iW eO (pv 3) af)))) (ag (au af)) aH) (ac (bD (dL (gH q (aG (a2 (pv 2) (pv 3))) (pv 1))) (ac (qs 4 S af) (ac (bN bw rfl (aU (aE fD (qf (k0:=4) (l.mono (aD (by decide) p)) (j base) (a3 (pv 0) (pv 1) (pv 2))) (bm (a1 gm)))) (gn 5 S) (ag (qs 4 S (aE cD (pv 4) (qf (k0:=1) (l.mono (aD (by decide) p)) (k base) (a1 (qf (hk:=aB _) l u (aX (pv 0) (aX (pv 1) (a3 (pv 2) (pv 5) (pv 3))))))))))) (ag (gV q (pv 1) (aG (a2 (pv 2) (pv 3))) (pv 4) rfl)))) aH) (ag (au (kZ q (pv 1) (aG (a2 (pv 2) (pv 3))) (fun _ _=>rfl))))))) (by walk_at "b");have r:∀n D:Nat,4<=n->fN P w K mg base "_law_count" ["told","known","face","deep"] n (kS K D)->fN P w K mg base "_law_sizes" ["told","known","face","ask","deep"] (n+1) (jj K D):=fun n D p u=>dG X G T.f_law_sizes (fun S _ _ _ _ _ _ _ _ _ l q h=>bK (BH h) (ac (qs 5 S (bm da)) (ac (bN bw rfl (aU (qf (k0:=1) (l.mono (aD (by decide) p)) (g base) (a2 (pv 0) (pv 3)))) (gn 6 S) (ag (bH (jq fQ iL iK dg (pv 5) (a1 (qf (hk:=aB _) l u (aX (pv 0) (a3 (pv 1) (qf (k0:=3) (l.mono (aD (by decide) p)) (i base) (aX (pv 0) (a3 (pv 1) (pv 2) (pv 6)))) (aE jU (pv 4) af))))))))) (ag (au (pv 5)))))) (by walk_at "b");have A:=o 4 0 _ (by decide) (by decide) (fun m e=>by cases e) E0;have B:=r 5 0 (by decide) A;have E:=o 6 1 _ (by decide) (by decide) (fun m e=>by cases e;rfl) B;have H:=r 7 1 (by decide) E;have I:=o 8 2 _ (by decide) (by decide) (fun m e=>by cases e;rfl) H;have J:=r 9 2 (by decide) I;have L:=o 10 3 _ (by decide) (by decide) (fun m e=>by cases e;rfl) J;have M:=r 11 3 (by decide) L;have N:=o 12 4 _ (by decide) (by decide) (fun m e=>by cases e;rfl) M;exact N
theorem zG(a:eo P w K mg)(e:gL P w K mg)(f:mZ P w K mg):mW P w K mg:=fun base=>dG X G T.f_law_sizes (fun S _ _ _ _ _ _ _ _ _ g i h=>bK (BH h) (ac (qs 5 S (bm da)) (ac (bN bw rfl (aU (qf g (a base) (a2 (pv 0) (pv 3)))) (gn 6 S) (ag (bH (jq fQ iL iK dg (pv 5) (a1 (qf g (f base) (aX (pv 0) (a3 (pv 1) (qf g (e base) (aX (pv 0) (a3 (pv 1) (pv 2) (pv 6)))) (aE jU (pv 4) af))))))))) (ag (au (pv 5)))))) (by walk_at "b")
theorem wN:i7 P w K mg:=fun base=>dG X G T.f_law_pieces (fun S _ _ _ _ _ _ _ _ _ a e h=>bK (FS h) (ac (bD (iW eO (xt (pv 0) af) aW) (ag (au (aG (a2 (xt (pv 0) af) (aE fD (bm (a1 (xt (pv 0) af))) (qc (pj (xt (pv 0) af)) (k5 (cP (aJ (by decide)) bE (cP (aJ (by decide)) bE (jr) (cQ)) (gp bE (cQ)))) fun _ _ _ _ _ _=>⟨cU rfl (av (gc 0) (av (gc 1) cg)),bO,pv 1⟩)))))) aH) (ag (au (aG (a2 gm (aE fD (qc (pj (xt (pv 0) af)) (k5 (cP (aJ (by decide)) bE (cP (aJ (by decide)) bE (jr) (cQ)) (gp bE (cQ)))) fun _ _ _ _ _ _=>⟨cU rfl (av (gc 0) (av (gc 1) cg)),bO,pv 1⟩) (bm (a1 (xt (pv 0) af)))))))))) (by walk_at "b")
theorem Bw:pM P w K mg:=fun base=>dG X G T.f_law_wait (fun S _ _ _ _ _ _ _ _ _ a e h=>bK (HD h) (ag (au (aG (a3 aW (df cJ rfl z.tuple de (a1 (qc (aU (xt (pv 0) af)) (aJ (by decide)) fun _ _ _ _ _ _=>⟨gc 0,bO,aG (a2 (pv 0) (pv 1))⟩))) (pv 1)))))) (by walk_at "b")
theorem Bz(g:gu P w K mg)(j:i7 P w K mg)(i:pM P w K mg):wz P w K mg:=fun base=>by
  have E0:fN P w K mg base "_law_bent" ["pen","told","trial"] 2 Df:=by
   obtain⟨f,a,t⟩:=T.f_law_bent;obtain⟨q,F⟩:=t.fun_;exact⟨f,q,xH,d6 X G a,F.kp,F.binds (ps:=["pen","told","trial"]) (by walk_at "b")⟩
  have o:∀(n D:Nat) (p:Sp),2<=n->D<=5->(∀m,D=m+1->p=(jm K m))->fN P w K mg base "_law_bent" ["pen","told","trial"] n p->fN P w K mg base "_law_bent" ["pen","told","trial"] (n+1) (jm K D):=fun n D p l r s u=>dG X G T.f_law_bent (fun S _ _ _ _ _ _ _ _ _ k H h=>bK (HN r s h) (ac (bD (PW.pt (jJ (iW eO (xt (pv 2) af) aW) (jJ (iW eO (xt (pv 2) af) aW) (jT (iW eO (qf (k0:=2) (k.mono (aD (by decide) l)) (g base) (a2 (pv 0) af)) af))))) (ac (qs 3 S (xl (xt (pv 1) af) (qf (k0:=2) (k.mono (aD (by decide) l)) (g base) (a2 (pv 0) (ql z.len (a1 (xt (pv 1) af))))))) (ac (qs 4 S (df cJ rfl z.tuple de (a1 (qc (aU (xt (pv 1) af)) (aJ (by decide)) fun _ _ _ _ _ _=>⟨gc 0,bO,aG (a2 (pv 0) (aG (a1 aW)))⟩)))) (ac (qs 5 S (bm (aX (aG (a1 aW)) (a3 (aG (a1 aW)) (qf (k0:=1) (k.mono (aD (by decide) l)) (i base) (a2 (pv 1) (aG (a1 aW)))) (qf (k0:=1) (k.mono (aD (by decide) l)) (i base) (a2 (pv 1) (aG (a1 aW)))))))) (ag (au (xl (aE fD (pv 5) (bm (a1 (aG (aX aW (a3 (pv 3) (aG (a1 aW)) (pv 4))))))) (qf (k0:=2) (k.mono (aD (by decide) l)) (g base) (a2 (pv 0) af)))))))) aH) (ac (ii (qf (k0:=1) (k.mono (aD (by decide) l)) (j base) (a1 (pv 2))) (cU rfl (av (gn 3 S) (av (gn 5 S) cg)))) (ac (qs 6 S (qf (k0:=2) (k.mono (aD (by decide) l)) (g base) (a2 (pv 0) (ql z.len (a1 (pv 5)))))) (ac (qs 7 S (qf (k0:=2) (k.mono (aD (by decide) l)) (g base) (a2 (pv 0) (ql z.len (a1 (pv 5)))))) (ac (bD (iW eO (qf (k0:=2) (k.mono (aD (by decide) l)) (g base) (a2 (pv 0) af)) af) (ag (ii (aG (a2 (xl (pv 5) (pv 7)) (xl (pv 5) (pv 6)))) (cU rfl (av (mG (pv 5) (pv 6) iF) (av (mG (pv 5) (pv 7) iF) cg))))) (ag (ii (Im u k rfl (a3 (pv 0) (pv 1) (xl (pv 5) (pv 6)))) (mG (pv 5) (pv 6) iF)))) (ac (bD (dL (mH (pv 3))) (ag (au (aG (a3 aW (s_ rfl rfl z.tuple rfl z.zip (a2 (xt (pv 1) af) (cY fI (pv 5) fg (du (BP u9 af))))) (xl (pv 5) (BP u9 af)))))) aH) (ag (au (aG (aX aW (a3 (pv 3) (xl (pv 5) af) (s_ rfl rfl z.tuple rfl z.zip (a2 (xt (pv 1) af) (cY fI (pv 5) (du af) fg))))))))))))))) (by walk_at "b");have v:=o 2 0 _ (by decide) (by decide) (fun m e=>by cases e) E0;have x:=o 3 1 _ (by decide) (by decide) (fun m e=>by cases e;rfl) v;have y:=o 4 2 _ (by decide) (by decide) (fun m e=>by cases e;rfl) x;have A:=o 5 3 _ (by decide) (by decide) (fun m e=>by cases e;rfl) y;have B:=o 6 4 _ (by decide) (by decide) (fun m e=>by cases e;rfl) A;have E:=o 7 5 _ (by decide) (by decide) (fun m e=>by cases e;rfl) B;exact E
theorem wO(g:eo P w K mg)(j:gL P w K mg)(k:jQ P w K mg)(l:jP P w K mg)(o:mW P w K mg)(i:i7 P w K mg):rf P w K mg:=fun base=>by
  have E0:fN P w K mg base "_law_number" ["told","known","face","deep","trial"] 14 Df:=by
   obtain⟨f,a,t⟩:=T.f_law_number;obtain⟨v,F⟩:=t.fun_;exact⟨f,v,xH,d6 X G a,F.kp,F.binds (ps:=["told","known","face","deep","trial"]) (by walk_at "b")⟩
  have r:∀(n D:Nat) (s:Sp),14<=n->D<=4->(∀m,D=m+1->s=(kR K m))->fN P w K mg base "_law_number" ["told","known","face","deep","trial"] n s->fN P w K mg base "_law_number" ["told","known","face","deep","trial"] (n+1) (kR K D):=fun n D s q x y A=>dG X G T.f_law_number (fun S _ _ _ _ _ _ _ _ _ p u h=>bK (Kf x y h) (ac (bD (iW (sf u) (pv 2) (aG da)) (ag (au (xl (bm (a2 gm af)) (df yb rfl z.int yd (a1 (Hh (sf u) (pv 4) (aG (a1 aW)))))))) aH) (ac (bD (PW.pt (jJ (iW eO (xt (pv 4) af) aW) (jJ (iW eO (xt (pv 4) af) aW) (jT (iW eO (pv 3) af))))) (ag (au (xl (bm (a2 gm af)) (df yb rfl z.int yd (a1 (Hh (sf u) (pv 4) (aG (a1 aW)))))))) aH) (ac (ii (qf (k0:=1) (p.mono (aD (by decide) q)) (i base) (a1 (pv 4))) (cU rfl (av (gn 5 S) (av (gn 6 S) cg)))) (ac (qs 7 S af) (ac (bN bw rfl (aU (aE fD (qf (k0:=4) (p.mono (aD (by decide) q)) (k base) (a3 (pv 0) (pv 1) (pv 2))) (bm (a1 gm)))) (gn 8 S) (ac (qs 9 S (qf (k0:=14) (p.mono (aD (by decide) q)) (o base) (aX (pv 0) (aX (pv 1) (a3 (pv 2) (pv 8) (pv 3)))))) (ac (bD (iW eO (pv 8) (pv 5)) (ac (qs 10 S af) (ac (bN bw rfl (Kq rfl z.zip (a3 (qf (k0:=1) (p.mono (aD (by decide) q)) (g base) (a2 (pv 0) (pv 5))) (pv 9) (pv 6))) (cU rfl (av (gn 11 S) (av (gn 12 S) (av (gn 13 S) cg)))) (ac (qs 14 S (Im A p rfl (aX (pv 0) (aX (pv 1) (a3 (qf (k0:=3) (p.mono (aD (by decide) q)) (j base) (aX (pv 0) (a3 (pv 1) (pv 2) (pv 11)))) (aE jU (pv 3) af) (pv 13)))))) (ac (bD (dL (mH (pv 14))) (ag (au gm)) aH) (ag (qs 10 S (aE cD (aE qJ (pv 10) (pv 12)) (pv 14))))))) (ag (au (aE cD (pv 7) (pv 10)))))) aH) (ag (qs 7 S (aE cD (pv 7) (qf (k0:=1) (p.mono (aD (by decide) q)) (l base) (a1 (pv 9))))))))) (ag (au gm)))))))) (by walk_at "b");have B:=r 14 0 _ (by decide) (by decide) (fun m e=>by cases e) E0;have E:=r 15 1 _ (by decide) (by decide) (fun m e=>by cases e;rfl) B;have H:=r 16 2 _ (by decide) (by decide) (fun m e=>by cases e;rfl) E;have I:=r 17 3 _ (by decide) (by decide) (fun m e=>by cases e;rfl) H;have J:=r 18 4 _ (by decide) (by decide) (fun m e=>by cases e;rfl) I;exact J
theorem C6(a:gu P w K mg):yo P w K mg:=fun base=>dG X G T.f_law_far (fun S _ _ _ _ _ _ _ _ _ e f h=>bK (LF (K:=K) h) (ac (qs 2 S af) (ac (bN bw rfl (im rfl z.range (a1 af)) (gn 3 S) (ag (qs 2 S (aE cD (aE qJ (pv 2) af) (qf e (a base) (a2 (pv 0) af)))))) (ag (au (aE gX (pv 2) (pv 1))))))) (by walk_at "b")
end
theorem LR(X:K.In h)(G:h.Ns ca mg)(z:Zs mg)(c:Cs K mg C Ck Cd a_STILL a_HUSH a_BLAME a_END)(T:Ts K C Ck Cd):∃f fd,mg "law"=some (.ref f)/\(∀(s:Shared) (v:Value),uz s fd ⟨[v],[]⟩ [("script",v)])/\∀base:Heap,mU P w K mg base CX0 28 f fd ["script"] (sp_law43 K):=by
 have bz:lu P w K mg:=wM X G z c T;have cb:wx P w K mg:=By X G z c T;have ce:pN P w K mg:=BA X G z c T;have g:gu P w K mg:=Bx X G z c T bz;have b5:mY P w K mg:=zH X G z c T g;have co:sP P w K mg:=C5 X G z c T;have al:ir P w K mg:=qa X G z c T g co;have b6:tI P w K mg:=zJ X G z c T ce g b5 al;have cp:sQ P w K mg:=C9 X G z c T;have Q:kF P w K mg:=C_ X G z c T;have E:gv P w K mg:=nW X G z c T cp Q;have bI:lC P w K mg:=wR X G z c T;have H:gx P w K mg:=nX X G z c T Q;have p:dC P w K mg:=ji X G z c T;have bd:jA P w K mg:=tW X G z c T;have U:hV P w K mg:=o_ X G z c T;have ap:jO P w K mg:=zE X G z c T;have bS:lr P w K mg:=wK X G z c T E bI H ap;have as:iw P w K mg:=qd X G z c T;have aC:iu P w K mg:=qb X G z c T;have cs:sR P w K mg C:=Db X G z c T Q p bd U ap bS as aC;have bh:oE P w K mg C:=vm X G z c T cs;have r:gi P w K mg C:=rY X G z c T;have I:gA P w K mg C:=nU X G z c T;have L:i5 P w K mg C:=wH X G z c T r I
 have ba:iS P w K mg C:=rZ X G z c T;have J:gB P w K mg C:=nV X G z c T;have x:hC P w K mg:=tX X G z c T;have y:hZ P w K mg C:=tT X G z c T;have n:fF P w K mg C:=tS X G z c T;have M:i8 P w K mg C:=wQ X G z c T r L;have bi:jY P w K mg C:=vn X G z c T L ba J;have a0:ip P w K mg C a_HUSH:=p8 X G z c T y n;have ch:pL P w K mg C:=Bv X G z c T bi a0;have bU:lD P w K mg Ck:=wS X G z c T;have q:eB P w K mg C Ck:=jS X G z c T ch;have N:i6 P w K mg:=wL X G z c T;have bl:nP P w K mg:=C3 X G z c T;have c2:A8 P w K mg C Ck Cd:=JO X G z c T n bU;have e:cy P w K mg C Ck Cd:=o8 X G z c T q
 have m:eS P w K mg C Ck Cd:=rV X G z c T e
 have i:dD P w K mg C Ck Cd:=rX X G z c T bl e m;have u:gh P w K mg C Ck Cd:=rW X G z c T bl e i;have b1:lm P w K mg:=wI X G z c T;have bc:iR P w K mg C Ck Cd:=rT X G z c T e m i u b1
 have cv:yn P w K mg C:=C4 X G z c T M N c2 i bc;have bn:nR P w K mg:=C8 X G z c T;have bo:nQ P w K mg:=C7 X G z c T;have a4:iq P w K mg:=p9 X G z c T;have A:g_ P w K mg:=tU X G z c T bn bo a4;have bf:jz P w K mg:=tV X G z c T A;have b7:mV P w K mg:=zC X G z c T bf;have B:fV P w K mg C:=mr X G z c T n;have Y:hJ P w K mg C:=o9 X G z c T y bn bo B;have D:fW P w K mg C:=mv X G z c T b7 Y;have b2:ln P w K mg C:=wJ X G z c T D;have a5:iz P w K mg C Ck Cd:=p7 X G z c T e m i u A;have a6:tH P w K mg C:=zD X G z c T M N c2 b2 a5;have b3:lA P w K mg:=wP X G z c T x;have b8:tJ P w K mg:=zM X G z c T x;have j:eo P w K mg:=p_ X G z c T;have o:gL P w K mg:=zP X G z c T b3;have a7:jQ P w K mg:=zN X G z c T o;have a8:jP P w K mg:=zF X G z c T;have a9:mZ P w K mg:=zK X G z c T j o a7 a8;have b9:mW P w K mg:=zG X G z c T j o a9;have O:i7 P w K mg:=wN X G z c T;have cl:pM P w K mg:=Bw X G z c T;have cm:wz P w K mg:=Bz X G z c T g O cl;have b4:rf P w K mg:=wO X G z c T j o a7 a8 b9 O;have c0:yo P w K mg:=C6 X G z c T g;obtain⟨f,a,t⟩:=T.f_law43;obtain⟨oc,od,an,sl,kV,dc,pm,cd,ct,l,c1,k1⟩:=t;have F:=IW (st:=(eU 82)) l c1 k1;have sc:lh Fs Ia (cx (eU 82)):=by walk_at "s"
 have S:=sc.nd;exact⟨f,_,d6 X G a,fun s v=>.of_eq rfl,fun base=>F.ok (k:=27) sc (by walk_at "l") (fun _ _ _ _ _ _ _ _ hr h=>by have hu:=EW hr;exact bK (HL (C:=C) h) (ac (qs 1 S (qf hr (cb base) (a1 (pv 0)))) (ac (qs 2 S (qf hr (b6 base) (a3 (pv 1) af (qf hr (g base) (a2 (pv 1) af))))) (ac (qs 3 S (qf hr (bh base) (a1 (pv 2)))) (ac (qs 4 S (xl (bm (aX af (a3 af af af))) (qf hr (g base) (a2 (pv 1) af)))) (ac (qs 5 S km) (ac (qs 6 S (qf hr (b8 base) (a1 (pv 2)))) (ac (qs 7 S (qf hr (a9 base) (aX (pv 2) (a3 (pv 5) (pv 6) (pv 4))))) (ac (bN bw rfl (im rfl z.range (a1 af)) (gn 8 S) (ac (qs 9 S (qf hr (c0 base) (a2 (pv 1) (pv 7)))) (ac (qs 10 S (qf hr (cv base) (a3 (pv 3) (pv 4) (pv 9)))) (ac (bD (iW EK (qf hr (a6 base) (a3 (pv 3) (pv 4) (pv 10))) (pv 9)) (ag (au qI)) aH) (ac (bN bw rfl (im rfl z.range (a1 (qf hr (g base) (a2 (pv 1) af)))) (gn 11 S) (ag (qs 10 S (qf hr (cm base) (a3 (pv 1) (pv 2) (pv 10)))))) (ag (bD (iW EK (qf hr (a6 base) (a3 (pv 3) (pv 4) (pv 10))) (qf hr (b4 base) (aX (pv 2) (aX (pv 5) (a3 (pv 6) (pv 4) (pv 10)))))) (ag (au qI)) aH))))))) (ag (au qI)))))))))))⟩
theorem all_mk{l:PySem.W.OpenLaw}{fa:Addr}{q:Value}{a:Value}{j:Value}{m:Value}{n:Value}{r:Value}{g:Value}{i:Value}{t:Obj}{u:Array Value}{a6:Nat}{O:Obj}{Q:Array Value}{bU:Nat}{x:Obj}{y:Array Value}{a7:Nat}{al:Obj}{an:Array Value}{b9:Nat}(X:K.In h)(G:h.Ns ca mg)(dy:mg "law"=some (.ref fa))
  (aC:cw K ca "Machine"=some (some (.ref C)))
  (pg:uA K C Ei=true)
  (hd:xj K C=true)
  (po:Ba K C=true)
  (sa:dX K (.ref C) "__setattr__"=some (some (.builtin "object.__setattr__")))
  (mk:pR K C=true)
  (kc:iC K (.ref C)=true)
  (dK:dX K (.ref C) "own_asks"=some none)
  (dT:dX K (.ref C) "own_says"=some none)
  (dV:dX K (.ref C) "own_rooms"=some none)
  (d0:dX K (.ref C) "own_doors"=some none)
  (d1:dX K (.ref C) "leaving"=some none)
  (d2:dX K (.ref C) "quiet"=some none)
  (d3:dX K (.ref C) "sign_goals"=some none)
  (d4:dX K (.ref C) "still_led"=some none)
  (dc:cw K ca "KnownSteps"=some (some (.ref Ck)))
  (cb:uA K Ck Ei=true)
  (cd:xj K Ck=true)
  (ce:Ba K Ck=true)
  (ch:dX K (.ref Ck) "__setattr__"=some (some (.builtin "object.__setattr__")))
  (cl:pR K Ck=true)
  (cm:iC K (.ref Ck)=true)
  (co:dX K (.ref Ck) "machine"=some none)
  (cp:dX K (.ref Ck) "known"=some none)
  (d5:cw K ca "Made"=some (some (.ref Cd)))
  (dd:uA K Cd Ei=true)
  (di:xj K Cd=true)
  (dj:Ba K Cd=true)
  (dm:dX K (.ref Cd) "__setattr__"=some (some (.builtin "object.__setattr__")))
  (dn:pR K Cd=true)
  (dp:iC K (.ref Cd)=true)
  (dr:dX K (.ref Cd) "says_signs"=some none)
  (ds:dX K (.ref Cd) "known_steps"=some none)
  (dx:dX K (.ref Cd) "known_counts"=some none)
  (cs:cw K ca "all"=some none)
  (b1:cw K ca "dict"=some none)
  (a5:cw K ca "divmod"=some none)
  (U:cw K ca "enumerate"=some none)
  (ct:cw K ca "int"=some none)
  (cv:cw K ca "len"=some none)
  (b2:cw K ca "list"=some none)
  (a8:cw K ca "range"=some none)
  (Y:cw K ca "reversed"=some none)
  (c0:cw K ca "sum"=some none)
  (a9:cw K ca "tuple"=some none)
  (c1:cw K ca "zip"=some none)
  (ap:cw K ca "LETTERS"=some (some q))
  (as:RelV (.str "abcdefghijklmnopqrstuvwxyz") q)
  (o:cw K ca "LONGEST_NAME"=some (some a))
  (p:RelV (.int 8) a)
  (H:cw K ca "MOST_WORDS"=some (some j))
  (I:RelV (.int 4) j)
  (J:cw K ca "MOST_ROOMS"=some (some m))
  (L:RelV (.int 150) m)
  (M:cw K ca "MOST_DOORS"=some (some n))
  (N:RelV (.int 2000) n)
  (a0:cw K ca "DEEPEST"=some (some r))
  (a4:RelV (.int 4) r)
  (A:cw K ca "MOST_WITHIN"=some (some g))
  (B:RelV (.int 8) g)
  (D:cw K ca "MOST_TRIALS"=some (some i))
  (E:RelV (.int 1000) i)
  (ba:cw K ca "STILL"=some (some (.ref a_STILL)))
  (bc:K.lookup a_STILL=some t)
  (bd:t.cls=.type "tuple")
  (bf:t.data=.seq u a6)
  (bh:u.size<=aj)
  (bi:bg (bx.map V.str) u.toList)
  (b3:cw K ca "HUSH"=some (some (.ref a_HUSH)))
  (b4:K.lookup a_HUSH=some O)
  (b5:O.cls=.type "tuple")
  (b6:O.data=.seq Q bU)
  (b7:Q.size<=aj)
  (b8:bg (bX.map V.str) Q.toList)
  (bl:cw K ca "BLAME"=some (some (.ref a_BLAME)))
  (bn:K.lookup a_BLAME=some x)
  (bo:x.cls=.type "tuple")
  (bz:x.data=.seq y a7)
  (bI:y.size<=aj)
  (bS:bg (dw.map V.str) y.toList)
  (c2:cw K ca "END"=some (some (.ref a_END)))
  (c3:K.lookup a_END=some al)
  (c4:al.cls=.type "tuple")
  (c5:al.data=.seq an b9)
  (c6:an.size<=aj)
  (c8:bg (eQ.map V.str) an.toList)
  (T:Ts K C Ck Cd)
 :∃fd:lE,(∀(s:Shared) (v:Value),uz s fd ⟨[v],[]⟩ [("script",v)])/\∀base:Heap,K.In base->base.Ns ca mg->mU l.prog w K mg base CX0 28 fa fd ["script"] (sp_law43 K):=by
 have z:Zs mg:=⟨iJ X G cs,iJ X G b1,iJ X G a5,iJ X G U,iJ X G ct,iJ X G cv,iJ X G b2,iJ X G a8,iJ X G Y,iJ X G c0,iJ X G a9,iJ X G c1⟩;have c:Cs K mg C Ck Cd a_STILL a_HUSH a_BLAME a_END:=⟨⟨_,d6 X G ap,as⟩,⟨_,d6 X G o,p⟩,⟨_,d6 X G H,I⟩,⟨_,d6 X G J,L⟩,⟨_,d6 X G M,N⟩,⟨_,d6 X G a0,a4⟩,⟨_,d6 X G A,B⟩,⟨_,d6 X G D,E⟩,⟨_,d6 X G ba,rfl⟩,⟨_,d6 X G b3,rfl⟩,⟨_,d6 X G bl,rfl⟩,⟨_,d6 X G c2,rfl⟩,uk bc bd bf bh bi,uk b4 b5 b6 b7 b8,uk bn bo bz bI bS,uk c3 c4 c5 c6 c8,⟨⟨pg,hd,po,sa⟩,dK,dT,dV,d0,d1,d2,d3,d4⟩,d6 X G aC,mk,kc,⟨⟨cb,cd,ce,ch⟩,co,cp⟩,d6 X G dc,cl,cm,⟨⟨dd,di,dj,dm⟩,dr,ds,dx⟩,d6 X G d5,dn,dp⟩;obtain⟨f,fd,e,b,k⟩:=LR (P:=l.prog) (w:=w) X G z c T;have e0:=dy.symm.trans e;cases e0;exact⟨fd,b,fun base _ _=>k base⟩
end
end Mum
namespace PySem.W.Fast
def tw5247953779857837280:=0
def tw1716995961888407102:=0
def tw10356093147633113355:=0
def tw9525939315531274429:=0
def tw8615380804604313138:=0
def tw734326242435677379:=0
def tw13268876598046980670:=0
def tw5649995526345741427:=0
def tw2925861165172172243:=0
def tw13208331299453268776:=0
def tw4541458171010437387:=0
def tw4082148594664785397:=0
def tw12005320323582196081:=0
def tw14650707922007399184:=0
def tw11912570464017406745:=0
def tw5825211298751028535:=0
def tw17237324024017527440:=0
def tw15513518616410714462:=0
def tw13228501881257801452:=0
def tw11091645657866806295:=0
def tw4095084297045132841:=0
def tw13736061335992216464:=0
def tw11953452227000245152:=0
def tw3387021311398163591:=0
def tw14451805601213859274:=0
def tw11525031210133492672:=0
def tw11676445851184416254:=0
def tw16179743842669312081:=0
def tw14152316843573153879:=0
def tw12733214571529633461:=0
def tw9712504190356118275:=0
def tw16103478996072256494:=0
def tw3202830534133796519:=0
def tw2269970615376930399:=0
def tw11223476635513640874:=0
def tw4255932105956185984:=0
def tw12339415512826700634:=0
def tw4508784142064324358:=0
def tw6090322670595524076:=0
def tw1086685794547736812:=0
def tw13134481375570735646:=0
def tw8790043387198921222:=0
def tw12023766972754701041:=0
def tw13426709149838712767:=0
def tw1031578860759767095:=0
def tw3233511133659277189:=0
def tw12355076920158633755:=0
def tw4688838340193080986:=0
def tw903254660600107529:=0
def tw1933849039008337007:=0
def tw8989157926012792894:=0
def tw1393327601003993502:=0
def tw12689780176028127967:=0
def tw774570135079580491:=0
def tw6621744952255912982:=0
def tw8025695874629623741:=0
def tw13593801750469119620:=0
def tw510434136416333229:=0
def tw6715782619607533400:=0
def tw18389724359844637630:=0
def tw11321689659200278812:=0
def tw16584973729472733724:=0
def tw7170703642965310478:=0
def tw11561038468087553732:=0
def tw13620387455940951369:=0
def tw306404705326298837:=0
def tw12247664322439759539:=0
def tw1522015893884545725:=0
def tw7959635178390896228:=0
def tw17900525803719236718:=0
def tw9761237666231846770:=0
def tw18105892053848918355:=0
def tw14991340184259788871:=0
def tw4827917023377703419:=0
def tw15518884403518573147:=0
def tw12685716836803194116:=0
def tw5970720689520941770:=0
def tw754803591515210424:=0
def tw5333639859528077351:=0
def tw8967110235416544794:=0
def tw15158930563002530040:=0
def tw4939073938832592191:=0
def tw5183330430019284688:=0
def tw3714918660088606302:=0
def tw13609679700876900032:=0
def tw14735703916577793424:=0
def tw8363980187949724976:=0
def tw14375224841442245952:=0
def tw2171682120019425964:=0
def tw2530398121280294513:=0
def tw9364311318167801944:=0
def tw662272348329348773:=0
def tw12629475276486393034:=0
def tw5048480392322316883:=0
def tw1933696553729074619:=0
def tw6846088578356638622:=0
def tw1873974106784985932:=0
def tw63103051190654237:=0
def tw9098757231722242092:=0
def tw1762847671143697444:=0
def tw3961587807822669113:=0
def tw1346955805825463059:=0
def tw260454203554586075:=0
def tw11474210196492214632:=0
def tw337761027494097838:=0
def tw11136191370348510279:=0
def tw373525130592756531:=0
def tw2009081911957499103:=0
def tw12808155038269081909:=0
def tw1985268252917601874:=0
def tw12864708007372721623:=0
def tw11372250994653000053:=0
def tw14347405030681971076:=0
def tw9323799118553559835:=0
def tw9752947057143467114:=0
def tw9643392677353670527:=0
def tw7614901882778203978:=0
def tw6568827643418743517:=0
def tw14082804281416867104:=0
def tw3684348345492346984:=0
def tw13902418061189977926:=0
def tw3431667350571492770:=0
def tw13047239497893031957:=0
def tw17886347860800562275:=0
def tw9477099534869329712:=0
def tw8728847142318622690:=0
def tw2409865024353267560:=0
def tw6599352774296256430:=0
def tw7638608229546167269:=0
def tw10077933648160220883:=0
def tw17555750570081674449:=0
def tw5472959533674341626:=0
def tw3251871154107809707:=0
def tw13675523451967985216:=0
def tw3501778651560881940:=0
def tw1429180164645569298:=0
def tw11612039525598541902:=0
def tw3232531869123879377:=0
def tw13714024950494066106:=0
def tw2972391970281419958:=0
def tw3955253651472072688:=0
def tw16291957075889175055:=0
def tw4096352793816418145:=0
def tw17224064287274995763:=0
def tw5869374039943430538:=0
def tw16555863080955595203:=0
def tw9369736911332883676:=0
def tw13650750674868326149:=0
def tw17860324518875342611:=0
def tw9194269432624818588:=0
def tw15335256329228348681:=0
def tw12190558632044188395:=0
def tw14957066327071498521:=0
def tw14830826505641152459:=0
def tw9425852933146109946:=0
def tw4411656500760160123:=0
def tw11047041459025620536:=0
def tw10267593879734041126:=0
def tw14953183923006819493:=0
def tw6746730096374179703:=0
def tw8373618698788435283:=0
def tw563912242055236257:=0
def tw17508822461482006815:=0
def tw12706484764005466319:=0
def tw1373656013034056278:=0
def tw11345467440779707297:=0
def tw14248913083209817625:=0
def tw11372849310144244905:=0
def tw5991305160102119750:=0
def tw17850515357357863830:=0
def tw8426737949487497000:=0
def tw15400258692551924163:=0
def tw4862498076378394311:=0
def tw11834554348810447567:=0
def tw11452287654019358748:=0
def tw4160653038196129021:=0
def tw14811426182095528353:=0
def tw6826320400188390039:=0
def tw18403961098815989979:=0
def tw17385592876239624384:=0
def tw4505716928832483829:=0
def tw9939524654408928031:=0
def tw2624567006857042306:=0
def tw16838090513512468652:=0
def tw13773650712301914550:=0
def tw5336947131725233101:=0
def tw2671448286703577260:=0
def tw6420064732966635786:=0
def tw15088739714783409564:=0
def tw6563582753073814834:=0
def tw8851115572683281486:=0
def tw5062583772806307842:=0
def tw14447919681235420790:=0
def tw14279162353841320911:=0
def tw600793932994715210:=0
def tw14643907940868586788:=0
def tw13784264698643958736:=0
def tw2257036908340740790:=0
def tw4318487563555683866:=0
def tw3963386895839242947:=0
def tw9961597794465400196:=0
def tw9852226537697064017:=0
def tw13129648679061399860:=0
def tw12639796091603561922:=0
def tw14994274057633392767:=0
def tw1520868932991992070:=0
def tw1224775518250288012:=0
def tw7122567247384596771:=0
def tw904125232293930687:=0
def tw14524187183958044105:=0
def tw12573318440844803168:=0
def tw5070965519628658898:=0
def tw10271539195830736264:=0
def tw13478381010740357561:=0
def tw11305390178101555733:=0
def tw14676024185444714430:=0
def tw197107348116267301:=0
def tw11590941087265992416:=0
def tw15866323949485204782:=0
def tw10564927202062713332:=0
def tw7374772943906584766:=0
def tw9175245235772068623:=0
def tw430552467260952028:=0
def tw4628902303772223432:=0
def tw17841203060002661016:=0
def tw15384683292989528831:=0
def tw16572884322294672997:=0
def tw7699111772045813497:=0
def tw11111572998401199130:=0
def tw16900665578297336974:=0
def tw1901329617469122376:=0
def tw1507626822889994258:=0
def tw13864281338908415909:=0
def tw6811603891280175078:=0
def tw6349612540843001212:=0
def tw16175148337438402107:=0
def tw17069397844315498557:=0
def tw11579422674490815946:=0
def tw14700725810808930003:=0
def tw358007129156013147:=0
def tw14255511157982798032:=0
def tw15858443494365642579:=0
def tw6624434997572097547:=0
def tw13958560424243427061:=0
def tw10667116964653450442:=0
def tw829928871160019491:=0
def tw9146674130590138997:=0
def tw14490896791105448017:=0
def tw1808981796117956758:=0
def tw856105288556659658:=0
def tw17867349690495164314:=0
def tw4241039407328057843:=0
def tw18326993428982795818:=0
def tw16276438400406185858:=0
def tw10062959788142897394:=0
def tw10229654524623924657:=0
def tw13381046910864984492:=0
def tw5236999404100239696:=0
def tw16465914881685640895:=0
def tw8529461174363420972:=0
def tw18385034693464437579:=0
def tw643867397148272909:=0
def tw7846996014485736482:=0
def tw10018512952222180763:=0
def tw5817556753649880449:=0
def tw3404828468560436180:=0
def tw11734547666301585418:=0
def tw8710815683368250882:=0
def tw10273744881678984456:=0
def tw11229722389867097134:=0
def tw4114169377394352085:=0
def tw14434873503350461795:=0
def tw9255846624985419572:=0
def tw16621436276661778899:=0
def tw6537754213520132303:=0
def tw13968452548837937380:=0
def tw11825179927495381067:=0
def tw5827580365452435038:=0
def tw16542019816263771653:=0
def tw5932267908780261206:=0
def tw9628247801960053543:=0
def tw12799503976804426872:=0
def tw12325688552037109273:=0
def tw16159247013712137321:=0
def tw12811287665069862774:=0
def tw9260198988819694330:=0
def tw1700696446014512357:=0
def tw11219960260290955476:=0
def tw8849413605777338882:=0
def tw3047851132685149513:=0
def tw11214732758793346734:=0
def tw1073153780170508406:=0
def tw8065516253072571879:=0
def tw4663053597401896942:=0
def tw9011308929481887969:=0
def tw13952365277677548883:=0
def tw8591297210408205322:=0
def tw8239097191606008786:=0
def tw2988109655361428886:=0
def tw17246907176592967710:=0
def tw6370826194398896363:=0
def tw10365918161496037294:=0
def tw8649266429768409109:=0
def tw8926879321391363586:=0
def tw1691717949128126050:=0
def tw12421555852331575060:=0
def tw8123867416972879288:=0
def tw10357129036144604313:=0
def tw8479449077489625063:=0
def tw16236223537900380500:=0
def tw9439644759445642243:=0
def tw10567785456468084092:=0
def tw12419487168161370189:=0
def tw2641102444897531614:=0
def tw8322649793748026170:=0
def tw15437844355287435010:=0
def tw16297232315893363042:=0
def tw4889184790142587236:=0
def tw1251004000806532742:=0
def tw324212735186481648:=0
def tw726713372738956156:=0
def tw16911268864972009515:=0
def tw9806364843416099541:=0
def tw11905279390675286725:=0
def tw2849500868815560890:=0
def tw3632114931260920951:=0
def tw4253169020032707020:=0
def tw12858054819890200919:=0
def tw10042359850668106433:=0
def tw15289196165683754085:=0
def tw11459301076096360635:=0
def tw10672634877080573761:=0
def tw11711295098362094707:=0
def tw18107807622460808897:=0
def tw1760720902544695972:=0
def tw15852597464821048876:=0
def tw918114042250828981:=0
def tw3971987886424246111:=0
def tw17909685506040178216:=0
def tw12723453319043951323:=0
def tw12658264744093641362:=0
def tw13730343517581436117:=0
def tw8676319270707296546:=0
def tw6519108580876813527:=0
def tw937763974630125965:=0
def tw8869985926058886643:=0
def tw6748433814183391115:=0
def tw1953458411386706086:=0
def tw2372368693076181464:=0
def tw12996889956445111792:=0
def tw5382833875963780324:=0
def tw714757687109154033:=0
def tw6731365880824388261:=0
def tw4376204273122642559:=0
def tw16235333187572786422:=0
def tw119984564075965910:=0
def tw5713805211160287691:=0
def tw17986402436906115462:=0
def tw680245842996603512:=0
def tw7854630932544101171:=0
def tw4928013808656793677:=0
def tw6106686021488236824:=0
def tw15309785225747960687:=0
def tw5496496139848361875:=0
def tw4378737544938244562:=0
def tw4394611647867604146:=0
def tw15747632557494093084:=0
def tw1561487125607558859:=0
def tw2280612844336216805:=0
def tw13442244925599811510:=0
def tw15796229091038278239:=0
def tw16118675512666790862:=0
def tw2673935560896273339:=0
def tw13060078772153117242:=0
def tw18223888096175379176:=0
def tw17228916662562395415:=0
def tw11088069552149822798:=0
def tw5582076929399436773:=0
def tw13396953635197214245:=0
def tw11522690158530977166:=0
def tw766891501581398973:=0
def tw13203662786645632715:=0
def tw15445868283801740294:=0
def tw7190170666320145768:=0
def tw473912819422299732:=0
def tw16758427601312662590:=0
def tw4969704073341743604:=0
def tw5160519850009350485:=0
def tw2629461457798616351:=0
def tw2581726041556922795:=0
def tw5413374722459603541:=0
def tw5652823791065115424:=0
def tw15859644481305872730:=0
def tw4923994116678543726:=0
def tw4291672574480327475:=0
def tw15899340576346541917:=0
def tw6237327974769135827:=0
def tw12169480395369087918:=0
def tw18290529385818884408:=0
def tw16888611329088902808:=0
def tw14627233639579251106:=0
def tw802473164736702608:=0
def tw15234495596788174442:=0
def tw13485324836897356709:=0
def tw7853524650758994184:=0
def tw9878751226312373691:=0
def tw4091891619720127739:=0
def tw2595422270791282203:=0
def tw17344561728460466076:=0
def tw16755558368426181259:=0
def tw15266209398932910437:=0
def tw1416607632446475550:=0
def tw12843980724127089261:=0
def tw9721623141678201169:=0
def tw7170372262788697344:=0
def tw6877056929091840513:=0
def tw5600104938961092194:=0
def tw4926791041657784077:=0
def tw3166510489405684896:=0
def tw17249384828878028084:=0
def tw15514727030943570394:=0
def tw11427392735223587518:=0
def tw8015818325224450726:=0
def tw249189745106395047:=0
def tw13499269211010691688:=0
def tw10621435696890269227:=0
def tw9342983707490346012:=0
def tw879005860964664784:=0
def tw494658456936594511:=0
def tw444838322627476970:=0
def tw3096207906393774345:=0
def tw14163463942520915666:=0
def tw1413497517955021017:=0
def tw13441703855501227128:=0
def tw9939310474601330480:=0
def tw977488790161406954:=0
def tw9494705548867802261:=0
def tw9353165621967823234:=0
def tw9077566944019620574:=0
def tw9048877601666565050:=0
def tw9000745958864836927:=0
def tw8785207464278495481:=0
def tw856441652515825601:=0
def tw8563620271033372167:=0
def tw8531967822100627268:=0
def tw8351243815493761271:=0
def tw8319848901613705198:=0
def tw8248176583995366327:=0
def tw8206103644237326552:=0
def tw798827509368104403:=0
def tw7695701591549385469:=0
def tw7678005775473383442:=0
def tw7599261126379049322:=0
def tw7437928623813128685:=0
def tw7351080409020858348:=0
def tw7257019558630627245:=0
def tw7127186758860839346:=0
def tw7011760318730345826:=0
def tw6951511419867681198:=0
def tw6538872078886393898:=0
def tw6534652927702391601:=0
def tw6302518310106219059:=0
def tw6233761661914399727:=0
def tw5520368289291445812:=0
def tw5433795305070095889:=0
def tw4956418976048342371:=0
def tw4778763086093077022:=0
def tw4718084472282225599:=0
def tw410195125601831870:=0
def tw4019510622810667722:=0
def tw4009717978830847805:=0
def tw4004979957359896444:=0
def tw346250391562618953:=0
def tw3429423955247503159:=0
def tw317702351394343968:=0
def tw2906043257326565254:=0
def tw2769397910641317374:=0
def tw2731413323932134201:=0
def tw257950582599764460:=0
def tw2288365432304071813:=0
def tw1871573324461887:=0
def tw18376296743871085697:=0
def tw1822203877721573171:=0
def tw1821854611941214622:=0
def tw18120425539244114190:=0
def tw17987174124497532620:=0
def tw17814657950807269390:=0
def tw17751426422967601259:=0
def tw17654213983565207411:=0
def tw17407881353781938523:=0
def tw17402865866602261328:=0
def tw17334335338926696450:=0
def tw17306256197467641054:=0
def tw17294308327116785002:=0
def tw17269510927835438462:=0
def tw17238827510234264074:=0
def tw17195609596182884065:=0
def tw17193276821213810797:=0
def tw16959821996650873783:=0
def tw16828553975229650239:=0
def tw16775820881242578803:=0
def tw16707271585743567338:=0
def tw1670573330053831058:=0
def tw16690191524618909312:=0
def tw1660006957801779102:=0
def tw16600018820233467088:=0
def tw16539376876987238181:=0
def tw15993590804062984570:=0
def tw1598740799633567187:=0
def tw15962252494656057427:=0
def tw15879552675006856888:=0
def tw15861574522569332189:=0
def tw15837227771043755862:=0
def tw15820889818725014325:=0
def tw15760961746006491365:=0
def tw15668603370901668979:=0
def tw15653416557706374401:=0
def tw15575917970298065357:=0
def tw15574778547590574213:=0
def tw15385089942015061006:=0
def tw1522014403099773795:=0
def tw15132186279840607710:=0
def tw14998605606047269295:=0
def tw14674524792308501801:=0
def tw14600078600841303890:=0
def tw14597011954626104870:=0
def tw1455907969860916321:=0
def tw14411182210259462145:=0
def tw14272905356210071467:=0
def tw14194781422185744821:=0
def tw14156482786515750494:=0
def tw14114633394066722411:=0
def tw13986962098280661312:=0
def tw13806850569823019388:=0
def tw13799547300122826224:=0
def tw13746619134201049774:=0
def tw13739337975061881210:=0
def tw13675496575910019019:=0
def tw13465038716374272050:=0
def tw13431816607259654735:=0
end PySem.W.Fast
open PySem PySem.W PyProof.Rows
set_option maxRecDepth 100000 in
set_option maxHeartbeats 0 in
theorem PySem.Challenge.cw_mumtrial_k43_number_of_a_trial_holds : PySem.Challenge.rw_mumtrial_k43_number_of_a_trial.Holds := by
 w_on;o_law;k_head;(case hw=>w_witness2)
 k_fill
 refine L2.walk_ofK (l:=PySem.Challenge.rw_mumtrial_k43_number_of_a_trial) (n:=63) (k:=28) (x:="script") (CX:=L2.CX0) (sp:=Mum.sp_law43) rfl (by decide) rfl ⟨rfl,by decide,by decide⟩ (fun w h Y=>PySem.W.kIn_of Y) ?F (fun _ _ a ns hl _ hS=>⟨a,ns,rfl,hS,hl,fun _=>rfl⟩) (fun _ _ _ _ z=>z)
 case F =>
  intro w mg fa h KX G hmg;refine' Mum.all_mk KX G hmg ?aC ?pg ?hd ?po ?sa ?mk ?kc ?na1 ?na2 ?na3 ?na4 ?na5 ?na6 ?na7 ?na8 ?aksc ?pgksc ?hdksc ?poksc ?saksc ?mkksc ?kcksc ?nksc1 ?nksc2 ?adc ?pgdc ?hddc ?podc ?sadc ?mkdc ?kcdc ?ndc1 ?ndc2 ?ndc3 ?z_all ?z_dict ?z_divmod ?z_enumerate ?z_int ?z_len ?z_list ?z_range ?z_reversed ?z_sum ?z_tuple ?z_zip ?g_LETTERS ?r_LETTERS ?g_LONGEST_NAME ?r_LONGEST_NAME ?g_MOST_WORDS ?r_MOST_WORDS ?g_MOST_ROOMS ?r_MOST_ROOMS ?g_MOST_DOORS ?r_MOST_DOORS ?g_DEEPEST ?r_DEEPEST ?g_MOST_WITHIN ?r_MOST_WITHIN ?g_MOST_TRIALS ?r_MOST_TRIALS ?g_STILL ?l_STILL ?c_STILL ?d_STILL ?s_STILL ?v_STILL ?g_HUSH ?l_HUSH ?c_HUSH ?d_HUSH ?s_HUSH ?v_HUSH ?g_BLAME ?l_BLAME ?c_BLAME ?d_BLAME ?s_BLAME ?v_BLAME ?g_END ?l_END ?c_END ?d_END ?s_END ?v_END ?T
  (case aC|pg|hd|po|sa|mk|kc|na1|na2|na3|na4|na5|na6|na7|na8|aksc|pgksc|hdksc|poksc|saksc|mkksc|kcksc|nksc1|nksc2|adc|pgdc|hddc|podc|sadc|mkdc|kcdc|ndc1|ndc2|ndc3|z_all|z_dict|z_divmod|z_enumerate|z_int|z_len|z_list|z_range|z_reversed|z_sum|z_tuple|z_zip|g_LETTERS=>k_is)
  (case r_LETTERS=>exact⟨_,rfl⟩)
  (case g_LONGEST_NAME=>k_is)
  (case r_LONGEST_NAME=>exact⟨_,rfl⟩)
  (case g_MOST_WORDS=>k_is)
  (case r_MOST_WORDS=>exact⟨_,rfl⟩)
  (case g_MOST_ROOMS=>k_is)
  (case r_MOST_ROOMS=>exact⟨_,rfl⟩)
  (case g_MOST_DOORS=>k_is)
  (case r_MOST_DOORS=>exact⟨_,rfl⟩)
  (case g_DEEPEST=>k_is)
  (case r_DEEPEST=>exact⟨_,rfl⟩)
  (case g_MOST_WITHIN=>k_is)
  (case r_MOST_WITHIN=>exact⟨_,rfl⟩)
  (case g_MOST_TRIALS=>k_is)
  (case r_MOST_TRIALS=>exact⟨_,rfl⟩)
  (case g_STILL|l_STILL=>k_is)
  (case c_STILL|d_STILL=>rfl)
  (case s_STILL=>decide)
  (case v_STILL=>exact .cons ⟨_,rfl⟩ .nil)
  (case g_HUSH|l_HUSH=>k_is)
  (case c_HUSH|d_HUSH=>rfl)
  (case s_HUSH=>decide)
  (case v_HUSH=>exact .cons ⟨_,rfl⟩ .nil)
  (case g_BLAME|l_BLAME=>k_is)
  (case c_BLAME|d_BLAME=>rfl)
  (case s_BLAME=>decide)
  (case v_BLAME=>exact .cons ⟨_,rfl⟩ .nil)
  (case g_END|l_END=>k_is)
  (case c_END|d_END=>rfl)
  (case s_END=>decide)
  (case v_END=>exact .cons ⟨_,rfl⟩ .nil)
  (case T=>constructor<;>first|(refine' Mum.fnG_mk ?a ?l ?c ?k;(case a=>k_is);(case l=>k_is);(case c=>k_is);(case k=>k_is))|(refine' Mum.fnM_mk ?a ?i ?l ?c ?k;(case a=>k_is);(case i=>k_is);(case l=>k_is);(case c=>k_is);(case k=>k_is)))
