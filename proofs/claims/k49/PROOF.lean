
import PyProof.Rows.All
import Wide.All
import OpenK.AllK
import Wide.FinOn
import Lean
import PyProof.EqAt
import PyProof.EqKinds
import PyProof.TupleCall
import PyProof.NeKinds
import PyProof.DictIter
import PyProof.DictWalks
import PyProof.RaisesMany
import PyProof.RulesAs
import PyProof.NsDelKeeps
import PyProof.InstStoreFacts
import PyProof.ExcClass3
import PyProof.ExcInit
import KE.KTryMore
import PyProof.AutoSeq1
import PyProof.WalkInts
import PyProof.DictItems
import PyProof.DictItemsLoops
import KE.KPairComp
import PyProof.DictValues
import PyProof.SumAny
import PyProof.Rows.SumAny
import PyProof.Rows.RuleDivmod
import KE.KRevIter
import PyProof.TupleOfGen
import KE.IntBitsLaws
import PySem.Challenge.RW_mumtrial_k49_deeper_ones_in_order
noncomputable section
open PySem renaming Program->bO,reduceHash->Ef,wpAny_mono->nT,wpAny_bind->ao,wpAny_specialOf->Gh,wpAny_call_entry->wa,wpAny_pure->aT,wpAny_rule->qO,Builtin->cE,wpAny_isInstance->BE,wpAny_holding->qN,wpAny_truthy_bool->sH,wpAny_seqItems->mw,sizeLine->aj,sysModules->ia,mainGlobals->bH,bootBuiltins->mr,starEach->aF,compareOp->ee,behindInMarks->ke,standAt->qK,holding->kz,wpAny_execs_nil->BC,swapsWith->qJ,assignEach->vk,wpAny_passesOwn->sC,letOwnedTupleGo->BB,wpAny_pyIter_list->BA,wpAny_pyIter_tuple->Bz,foldedSetIterable->yB,binaryOp->jj,sizeLine_eq->vj,getMethod->qI,codeAny->zzl76,attributeBase->vh,FuncData->kb,BindsTo->sw,codeAny_mono->Bu,wpAny_Call_Name_kw->Bt,callWith->vg,backToKw->nO,keywordEach->nN,NameKind->ji,mem_of_lookup->sX,getItem->mN,subscripted->wP,sliceBounds->mM,Keyword->pF,call_meets->sT,valueAt->mL,call_meetsIn->sQ,callerA->kF,DictEntry->kE,wpAny_newObj_type->pB,ZipApart->pA,wpAny_pyIter_zip->wI,wpAny_callSpecial?_slot->pr,wpAny_field->hC,wpAny_setField->wG,firstArgMember->wE,wpAny_setField_rec->pp,wpAny_onRaise->wC,wpAny_attempt->wB,wpAny_dictEntries->ww,wpAny_typeNameOfWhole_keyiter->wv,wpAny_typeNameOf_keyiter->wu,intBits_add_le->wd
open PySem.Builtin.Tuple renaming tupleHashOf->Af
open Bool renaming false_ne_true->gX,not_true->BD,false_eq_true->sM,eq_iff_iff->yz,true_and->sE
open Nat renaming add_assoc->Gg,le_refl->ax,lt_of_lt_of_le->gL,lt_irrefl->mv,ne_of_lt->db,le_trans->aG,le_of_lt->c6,ne_of_gt->h_,zero_le->cG,lt_succ_self->Bw,le_add_right->sO,min_eq_left->wm,mod_lt->sF,succ_mul->g8,mul_le_mul_right->dW
open List renaming append_nil->dY,range->nS,mem_filter->fb,mem_cons_self->dI,mem_cons_of_mem->dX,mem_cons->cy,mem_append->br,mem_append_left->cL,getElem?_eq_some_iff->bY,mem_append_right->cZ,length_cons->fG,lookup->gb,map_cons->bg,length_map->ai,nodup_cons->nM,of_mem_zip->Bs,length_take->aM,getElem?_append_right->sW,getElem?_append_left->sV,getElem?_map->de,mem_of_getElem?->cc,length_append->aE,size_toArray->bN,length_drop->fA,reverse_cons->pE,length_reverse->hE,find?_cons->pD,any_cons->wM,nodup_nil->sR,map_nil->wK,lookup_cons->iz,forIn_cons->sP,mem_map->aL,not_mem_nil->sN,any_toArray->wz,drop_zero->sK,take_length->aS,getElem?_eq_getElem->cN,mem_singleton->cC,map_append->ar,nodup_append->dw,drop_of_length_le->pj,drop_eq_getElem_cons->pi,take_of_length_le->sI,map_take->wo,map_drop->wn,drop_length->sG,mem_of_mem_take->fL,mem_of_mem_drop->wk,append_assoc->eQ,nodup_iff_pairwise_ne->wj,map_map->jH,sum_cons->mG,mem_map_of_mem->kB,take_zero->sD,length_filter_le->cM,filter_append->iy,map_eq_nil_iff->wg,filter_cons_of_neg->wc,filter_cons_of_pos->wb,zipWith->jc,length_zip->kA
open Option.some renaming inj->ff
open PySem.W renaming instObj->qM,lookIn->By,plainGet->sy,hasDictIn->vi,findIn->c_,isFn->yy,plainOver->yv,makesIn->nQ,emptyDict->nP,keepIn->gK,fnOf->iA,codeIn->mO,nsIn->bT,mg_of->dU,mg_none_of->gZ
open PySem.Heap renaming lt_size->aU,SameBut->i3,get?_push_of_some->bq,get?_push_size->da,size_push->qG,get?_update_self->wO
open PyProof.Rows renaming AllBare->nR,callWith_type1->yC,IntsAre->mK
open Ne renaming symm->ix
open Array renaming length_toList->mq
open False renaming elim->jk
open PySem.Str renaming empty->Bx,ofString->pq
open True renaming intro->qH
open PySem.Calls renaming spliced_cons->Bv,callWith_builtin->wN
open Option renaming isSome_iff_exists->Br,map_some->sS,map_eq_some_iff->mF
open Int renaming toNat_natCast->kG,emod_nonneg->g_,emod_lt_of_pos->g9,le_refl->mI,eq_ofNat_of_zero_le->mH,le_of_lt->mE
open PySem.Obj renaming mapSeq->sU,data_mapFields->wF
open PySem.Paired renaming snoc->ef
open PySem.F renaming slot_dict_get->pC,entry_dict_get->wL,slot_tuple_iterator_next->wH,slot_zip_next->wA,slot_dict_keyiterator_next->sJ,plainAttrs_list->eP,slot_list_append->g7,type_list_append->g6
open ForInStep renaming yield->wJ
open PySem.NameKind renaming free->kD
open PySem.Builtin.SmallTypes renaming nextOf->kC,ownedTupleIsFree->wD
open PySem.Heap.SameBut renaming update->mJ
open PySem.SeqAt renaming EqAt->aY
open PySem.Builtin.Str renaming strSliceIndices->sL
open PySem.Txt renaming join->wx
open PySem.PassesOwn renaming never->bp
theorem Q0:0<=PySem.sizeLine:=by decide
theorem Q1:1<=PySem.sizeLine:=by decide
theorem Q2:2<=PySem.sizeLine:=by decide
theorem Q3:3<=PySem.sizeLine:=by decide
theorem Q4:4<=PySem.sizeLine:=by decide
theorem Q6:6<=PySem.sizeLine:=by decide
theorem zzr0{p:Prop}[Decidable p](h:¬p):decide p=false:=decide_eq_false h
theorem zzr1{p:Prop}[Decidable p](h:p):decide p=true:=decide_eq_true h
abbrev Za:=PySem.W.Frag
abbrev Zb:=List PySem.Str
abbrev Zc:=PySem.Value->PySem.Shared->Prop
abbrev Zd:=List (PySem.Addr×PySem.Obj)
abbrev Ze:=List PySem.Addr
abbrev Zf:=List PySem.Value
section
set_option Elab.async false
set_option linter.all false
set_option maxRecDepth 100000
set_option maxHeartbeats 4000000
namespace L2
open PySem PySem.Spec PyProof.Rows
open Sem (wp)
abbrev fw:=Sum Int Str
def c7:fw->Value->Bool
 |.inl k,v=>Value.isInt k v
 |.inr x,v=>Value.isStrOf x v
def Jn(w:World):fw->Int
 |.inl k=>hashInt k
 |.inr x=>hashStr w x
theorem av:∀{k:fw}{v:Value},c7 k v=true->(∃i t,k=Sum.inl i/\v=Value.int i t)∨(∃x t,k=Sum.inr x/\v=Value.str x t)
 |.inl i,v,h=>by
  obtain⟨t,e⟩:=Value.isInt_shape (k:=i) (v:=v) h;exact .inl ⟨i,t,rfl,e⟩
 |.inr x,v,h=>by
  obtain⟨t,e⟩:=Value.isStrOf_shape (x:=x) (v:=v) h;exact .inr ⟨x,t,rfl,e⟩
theorem lO(i:Int)(t:Tok):c7 (.inl i) (.int i t)=true:=by simp[c7,Value.isInt]
theorem lN(x:Str)(t:Tok):c7 (.inr x) (.str x t)=true:=by simp[c7,Value.isStrOf]
theorem xM(a b:Int):decide ((Sum.inl a:fw)=Sum.inl b)=(a==b):=by
 by_cases e:a=b
 ·subst e;simp
 ·have h:¬(Sum.inl a:fw)=Sum.inl b:=fun q=>e (Sum.inl.inj q);rw[zzr0 h];exact(beq_eq_false_iff_ne.mpr e).symm
theorem xI(a b:Str):decide ((Sum.inr a:fw)=Sum.inr b)=decide (a=b):=by
 by_cases e:a=b
 ·subst e;simp
 ·have h:¬(Sum.inr a:fw)=Sum.inr b:=fun q=>e (Sum.inr.inj q);rw[zzr0 h,zzr0 e]
theorem xL(a:Int)(b:Str):decide ((Sum.inl a:fw)=Sum.inr b)=false:=zzr0 (fun q=>nomatch q)
theorem xJ(a:Str)(b:Int):decide ((Sum.inr a:fw)=Sum.inl b)=false:=zzr0 (fun q=>nomatch q)
def cn(prog:bO)(w:World):PySem.KeyKind prog w fw where
 is:=c7
 hash:=Jn w
 inj:=fun v a b ha hb=>by
  rcases av ha with⟨i,t,rfl,rfl⟩|⟨x,t,rfl,rfl⟩
  ·rcases av hb with⟨j,u,rfl,e⟩|⟨y,u,rfl,e⟩
   ·injection e with e1 _;rw[e1]
   ·exact nomatch e
  ·rcases av hb with⟨j,u,rfl,e⟩|⟨y,u,rfl,e⟩
   ·exact nomatch e
   ·injection e with e1 _;rw[e1]
 byValue:=fun k v h=>by
  rcases av h with⟨i,t,rfl,rfl⟩|⟨x,t,rfl,rfl⟩<;>rfl
 pyHash:=fun hv h=>by
  rcases av hv with⟨i,t,rfl,rfl⟩|⟨x,t,rfl,rfl⟩
  ·exact wpAny_pyHash_int h
  ·exact wpAny_pyHash_str h
 eqBool:=fun hu hv h=>by
  rcases av hu with⟨i,t,rfl,rfl⟩|⟨x,t,rfl,rfl⟩
  ·rcases av hv with⟨j,u,rfl,rfl⟩|⟨y,u,rfl,rfl⟩
   ·rw[xM]at h;exact wpAny_eqBool_int h
   ·rw[xL]at h;exact aY.int_str i t y u _ _ _ _ h
  ·rcases av hv with⟨j,u,rfl,rfl⟩|⟨y,u,rfl,rfl⟩
   ·rw[xJ]at h;exact aY.str_int x t j u _ _ _ _ h
   ·rw[xI]at h;exact wpAny_eqBool_str h
 «strs»:=fun k x t v h=>by
  rcases av h with⟨i,u,rfl,e⟩|⟨y,u,rfl,e⟩
  ·exact nomatch e
  ·injection e with e1 _;subst e1;cases v<;>rfl
theorem zD(prog:bO)(w:World)(i:Int)(t:Tok):(cn prog w).is (.inl i) (.int i t)=true:=lO i t
theorem zC(prog:bO)(w:World)(x:Str)(t:Tok):(cn prog w).is (.inr x) (.str x t)=true:=lN x t
end L2
namespace L2
open PySem PySem.Spec PyProof.Rows
open Sem (wp)
abbrev nH:=Option fw
def iM:nH->Value->Bool
 |none,v=>match v with
  |.none=>true
  |_=>false
 |some k,v=>c7 k v
def HR(w:World):nH->Int
 |none=>Ef 4238894112
 |some k=>Jn w k
theorem bM:∀{k:nH}{v:Value},iM k v=true->(∃i t,k=some (Sum.inl i)/\v=Value.int i t)∨(∃x t,k=some (Sum.inr x)/\v=Value.str x t)∨(k=none/\v=Value.none)
 |none,v,h=>by
  refine .inr (.inr ⟨rfl,?_⟩);cases v<;>first|rfl|cases h
 |some k,v,h=>by
  rcases av (show c7 k v=true from h)with⟨i,t,rfl,rfl⟩|⟨i,t,rfl,rfl⟩
  ·exact .inl ⟨i,t,rfl,rfl⟩
  ·exact .inr (.inl ⟨i,t,rfl,rfl⟩)
theorem ug{a b:nH}{v:Value}(h1:iM a v=true)(h2:iM b v=true):a=b:=by
 rcases bM h1 with⟨i,t,rfl,rfl⟩|⟨i,t,rfl,rfl⟩|⟨rfl,rfl⟩<;>rcases bM h2 with⟨j,u,rfl,e⟩|⟨j,u,rfl,e⟩|⟨rfl,e⟩<;>first|rfl|(cases e;rfl)|cases e
def zB(prog:bO)(w:World):PySem.KeyKind prog w nH where
 is:=iM
 hash:=HR w
 inj:=fun v a b ha hb=>ug ha hb
 byValue:=fun k v h=>by
  rcases bM h with⟨i,t,rfl,rfl⟩|⟨x,t,rfl,rfl⟩|⟨rfl,rfl⟩<;>rfl
 pyHash:=fun{A E s k v Q} hv h=>by
  rcases bM hv with⟨i,t,rfl,rfl⟩|⟨x,t,rfl,rfl⟩|⟨rfl,rfl⟩
  ·exact wpAny_pyHash_int h
  ·exact wpAny_pyHash_str h
  ·refine PySem.W.pyHash_slot (T:="NoneType") rfl F.slot_NoneType_hash F.entry_NoneType_hash (F.args_NoneType_hash_1 _) (by rw[beq_builtin_none]) (.inl rfl) ?_;show wpAny _ _ (retInt 4238894112) _ _ _;refine nT (wpAny_ret_mkInt (Q:=fun v s'=>∃n t,v=Value.int n t/\Q (Ef n) s') ⟨_,_,rfl,h⟩) (fun fin s' ⟨v,e,n,t,e2,q⟩=>⟨n,t,by rw[e,e2],q⟩) (fun _ _ z=>z)
 eqBool:=fun{A E s a b u v Q} hu hv h=>by
  rcases bM hu with⟨i,t,rfl,rfl⟩|⟨x,t,rfl,rfl⟩|⟨rfl,rfl⟩
  ·rcases bM hv with⟨j,u,rfl,rfl⟩|⟨y,u,rfl,rfl⟩|⟨rfl,rfl⟩
   ·exact(cn prog w).eqBool (a:=.inl i) (b:=.inl j) (lO i t) (lO j u) (by rw[show decide ((Sum.inl i:fw)=Sum.inl j)=decide ((some (Sum.inl i):nH)=some (Sum.inl j))from decide_eq_decide.mpr ⟨fun z=>by rw[z],fun z=>by injection z⟩];exact h)
   ·rw[zzr0 (by intro z;injection z with z;cases z)]at h;exact aY.int_str i t y u _ _ _ _ h
   ·rw[zzr0 (by intro z;cases z)]at h;exact aY.int_none i t _ _ _ _ h
  ·rcases bM hv with⟨j,u,rfl,rfl⟩|⟨y,u,rfl,rfl⟩|⟨rfl,rfl⟩
   ·rw[zzr0 (by intro z;injection z with z;cases z)]at h;exact aY.str_int x t j u _ _ _ _ h
   ·exact(cn prog w).eqBool (a:=.inr x) (b:=.inr y) (lN x t) (lN y u) (by rw[show decide ((Sum.inr x:fw)=Sum.inr y)=decide ((some (Sum.inr x):nH)=some (Sum.inr y))from decide_eq_decide.mpr ⟨fun z=>by rw[z],fun z=>by injection z⟩];exact h)
   ·rw[zzr0 (by intro z;cases z)]at h;exact aY.str_none x t _ _ _ _ h
  ·rcases bM hv with⟨j,u,rfl,rfl⟩|⟨y,u,rfl,rfl⟩|⟨rfl,rfl⟩
   ·rw[zzr0 (by intro z;cases z)]at h;exact aY.none_int j u _ _ _ _ h
   ·rw[zzr0 (by intro z;cases z)]at h;exact aY.none_str y u _ _ _ _ h
   ·rw[zzr1 rfl]at h;exact aY.same _ _ _ _ _ h
 «strs»:=fun k x t v h=>by
  rcases bM h with⟨i,u,rfl,e⟩|⟨y,u,rfl,e⟩|⟨rfl,e⟩
  ·exact nomatch e
  ·injection e with e1 _;subst e1;cases v<;>rfl
  ·exact nomatch e
inductive TK where
 |k (a:nH)
 |t (l:List TK)
mutual
def HZ:(x y:TK)->Decidable (x=y)
 |.k a,.k b=>if h:a=b then Decidable.isTrue (by rw[h])else Decidable.isFalse fun e=>h (by injection e)
 |.t l,.t m=>match decTKs l m with
  |Decidable.isTrue h=>Decidable.isTrue (by rw[h])
  |Decidable.isFalse h=>Decidable.isFalse fun e=>h (by injection e)
 |.k _,.t _=>Decidable.isFalse nofun
 |.t _,.k _=>Decidable.isFalse nofun
def decTKs:(x y:List TK)->Decidable (x=y)
 |[],[]=>Decidable.isTrue rfl
 |[],_::_=>Decidable.isFalse nofun
 |_::_,[]=>Decidable.isFalse nofun
 |a::l,b::m=>match HZ a b with
  |Decidable.isTrue h=>match decTKs l m with
   |Decidable.isTrue h'=>Decidable.isTrue (by rw[h,h'])
   |Decidable.isFalse h'=>Decidable.isFalse fun e=>h' (by injection e)
  |Decidable.isFalse h=>Decidable.isFalse fun e=>h (by injection e)
end
instance:DecidableEq TK:=HZ
mutual
def TK.depth:TK->Nat
 |.k _=>0
 |.t l=>TK.depths l+1
def TK.depths:List TK->Nat
 |[]=>0
 |a::r=>max (TK.depth a) (TK.depths r)
end
mutual
def TK.hash(w:World):TK->Int
 |.k a=>HR w a
 |.t l=>Ef (Af (TK.hashs w l))
def TK.hashs(w:World):List TK->List Int
 |[]=>[]
 |a::r=>TK.hash w a::TK.hashs w r
end
mutual
def TK.draws:TK->Nat
 |.k _=>1
 |.t l=>TK.drawss l+1
def TK.drawss:List TK->Nat
 |[]=>0
 |a::r=>TK.draws a+TK.drawss r
end
mutual
def mf(h:Heap):TK->Value->Prop
 |.k a,v=>iM a v=true
 |.t l,v=>∃a o items n,v=.ref a/\h.get? a=some o/\o.cls=.type "tuple"/\o.data=.seq items n/\TAts h l items.toList
def TAts(h:Heap):List TK->List Value->Prop
 |[],vs=>vs=[]
 |k::r,vs=>∃v us,vs=v::us/\mf h k v/\TAts h r us
end
theorem mf.inj{h:Heap}:∀(d:Nat) {x y:TK}{v:Value},x.depth<=d->mf h x v->mf h y v->x=y:=by
 have key:∀(d:Nat) (ih:∀{x y:TK}{v:Value},x.depth<=d->mf h x v->mf h y v->x=y) (xs ys:List TK) (vs:Zf),TK.depths xs<=d->TAts h xs vs->TAts h ys vs->xs=ys:=by
  intro d ih xs
  induction xs with
  |nil =>
   intro ys vs _ hx hy;have hx':vs=[]:=hx;subst hx';cases ys with
   |nil=>rfl
   |cons y ys=>obtain⟨_,_,e,_⟩:=hy;cases e
  |cons x xs ihl =>
   intro ys vs hd hx hy;obtain⟨v,us,rfl,hx1,hx2⟩:=hx;cases ys with
   |nil=>have hy':v::us=[]:=hy;cases hy'
   |cons y ys =>
    obtain⟨v',us',e,hy1,hy2⟩:=hy;cases e;have hd':max x.depth (TK.depths xs)<=d:=hd;rw[ih (by omega) hx1 hy1,ihl ys us (by omega) hx2 hy2]
 have leaf:∀(a:nH) (l:List TK) (v:Value),mf h (.k a) v->mf h (.t l) v->False:=by
  intro a l v h1 h2;obtain⟨b,o,items,n,rfl,_⟩:=h2;rcases bM (show iM a (.ref b)=true from h1)with⟨_,_,_,e⟩|⟨_,_,_,e⟩|⟨_,e⟩<;>cases e
 have kk:∀(a b:nH) (v:Value),iM a v=true->iM b v=true->a=b:=fun a b v h1 h2=>ug h1 h2;intro d
 induction d with
 |zero =>
  intro x y v hd hx hy;cases x with
  |t l=>exact absurd hd (by show ¬(TK.depths l+1<=0);omega)
  |k a =>
   cases y with
   |k b=>rw[kk a b v hx hy]
   |t l=>exact(leaf a l v hx hy).elim
 |succ d ih =>
  intro x y v hd hx hy;cases x with
  |k a =>
   cases y with
   |k b=>rw[kk a b v hx hy]
   |t l=>exact(leaf a l v hx hy).elim
  |t l =>
   cases y with
   |k b=>exact(leaf b l v hy hx).elim
   |t l' =>
    obtain⟨a,o,items,n,rfl,ho,hc,hdt,hi⟩:=hx;obtain⟨a',o',items',n',e,ho',hc',hdt',hi'⟩:=hy;cases e;rw[ho]at ho';cases ho';rw[hdt]at hdt';injection hdt' with e1 _;subst e1;rw[key d (fun h1=>ih h1) l l' items.toList (by have:TK.depths l+1<=d+1:=hd;omega) hi hi']
theorem mf.mono{h h':Heap}(k:∀a o items n,h.get? a=some o->o.cls=.type "tuple"->o.data=.seq items n->h'.get? a=some o):∀(d:Nat) {x:TK}{v:Value},x.depth<=d->mf h x v->mf h' x v:=by
 have key:∀(d:Nat) (ih:∀{x:TK}{v:Value},x.depth<=d->mf h x v->mf h' x v) (xs:List TK) (vs:Zf),TK.depths xs<=d->TAts h xs vs->TAts h' xs vs:=by
  intro d ih xs
  induction xs with
  |nil=>intro vs _ hx;exact hx
  |cons x xs ihl =>
   intro vs hd hx;obtain⟨v,us,rfl,hx1,hx2⟩:=hx;have hd':max x.depth (TK.depths xs)<=d:=hd;exact⟨v,us,rfl,ih (by omega) hx1,ihl us (by omega) hx2⟩
 intro d
 induction d with
 |zero =>
  intro x v hd hx;cases x with
  |t l=>exact absurd hd (by show ¬(TK.depths l+1<=0);omega)
  |k a=>exact hx
 |succ d ih =>
  intro x v hd hx;cases x with
  |k a=>exact hx
  |t l =>
   obtain⟨a,o,items,n,rfl,ho,hc,hdt,hi⟩:=hx;exact⟨a,o,items,n,rfl,k a o items n ho hc hdt,hc,hdt,key d (fun h1=>ih h1) l _ (by have:TK.depths l+1<=d+1:=hd;omega) hi⟩
section
variable{prog:bO}{w:World}
theorem Gm:∀(d:Nat) {A:Around}{E:Zc}{s:Shared}{k:TK}{v:Value}{Q:Int->Shared->Prop},k.depth<=d->A.units+d<cLine->mf s.heap k v->Q (k.hash w) { s with toks:=s.toks+k.draws } ->
  wpAny (model prog w) A (pyHash v) Q E s:=by
 intro d
 induction d with
 |zero =>
  intro A E s k v Q hd hu hk h;cases k with
  |t l=>exact absurd hd (by show ¬(TK.depths l+1<=0);omega)
  |k a=>exact(zB prog w).pyHash (k:=a) hk h
 |succ d ih =>
  intro A E s k v Q hd hu hk h;cases k with
  |k a=>exact(zB prog w).pyHash (k:=a) hk h
  |t l =>
   obtain⟨a,o,items,n,rfl,ho,hc,hdt,hi⟩:=hk;have hT:s.TypeIs (.ref a) "tuple":=⟨o,ho,hc⟩;have hdl:TK.depths l<=d:=by have:TK.depths l+1<=d+1:=hd;omega
   unfold pyHash
   first|unfold pyHashByItsType|skip
   first|refine ao (wpAny_cRoomFor_or (.inr (by omega)) ?_)|skip
   refine ao (Gh hT F.slot_tuple_hash.lookup ?_);show wpAny _ _ (if(some (Value.builtin "tuple.__hash__")==some Value.none)=true then _ else _) Q E s
   rw[if_neg (by rw[beq_builtin_none];exact gX)];refine ao (Gh hT F.slot_tuple_hash.lookup ?_);show wpAny _ _ (callSpecialIfBoundUnlessNone? (.ref a) "__hash__" _ >>= _) Q E s;refine ao (wpAny_callSpecialIfBoundUnlessNone?_slot hT F.slot_tuple_hash (wa F.slot_tuple_hash hT F.entry_tuple_hash ?_ (F.args_tuple_hash_1 _)));show wpAny _ _ (cE.Tuple.tupleItemsOf (.ref a) >>= _) _ _ s;refine ao (wpAny_tupleItemsOf ho hdt ?_);refine ao ?_;rw[<-Array.forIn_toList];refine wpAny_forIn_list _
    (fun rest (b:Array Int) s'=>∃done left,l=done++left/\TAts s.heap left rest/\b.toList=TK.hashs w done/\s'={ s with toks:=s.toks+TK.drawss done })
    _ ?_ ?_ _ _ ⟨[],l,rfl,hi,rfl,rfl⟩
   ·rintro x rest b s' ⟨done,left,e,hl,hb,rfl⟩;cases left with
    |nil=>have hl':x::rest=[]:=hl;cases hl'
    |cons k' left =>
     obtain⟨x',rest',e',h1,h2⟩:=hl;cases e';have hdk:k'.depth<=d:=by
      have gen:∀(p:List TK),TK.depths (p++k'::left)<=d->k'.depth<=d:=by
       intro p
       induction p with
       |nil=>intro hp;have hp':max k'.depth (TK.depths left)<=d:=hp;omega
       |cons q p ihp=>intro hp;have hp':max q.depth (TK.depths (p++k'::left))<=d:=hp;exact ihp (by omega)
      exact gen done (by rw[<-e];exact hdl)
     have hs:TK.hashs w (done++[k'])=TK.hashs w done++[k'.hash w]:=by
      clear e hb
      induction done with
      |nil=>rfl
      |cons q p ihp=>show _::TK.hashs w (p++[k'])=_;rw[ihp];rfl
     have hdr:TK.drawss (done++[k'])=TK.drawss done+k'.draws:=by
      clear e hb hs
      induction done with
      |nil=>show k'.draws+0=0+k'.draws;omega
      |cons q p ihp=>show q.draws+TK.drawss (p++[k'])=q.draws+TK.drawss p+k'.draws;rw[ihp];omega
     refine ao (ih (k:=k') hdk (by show A.units+1+d<cLine;omega) h1 ?_)
     first
      |exact aT ⟨done++[k'],left,by rw[e];simp,h2,by rw[hs];simp[hb],by rw[hdr];simp[Gg]⟩
      |exact ao (aT (aT ⟨done++[k'],left,by rw[e];simp,h2,by rw[hs];simp[hb],by rw[hdr];simp[Gg]⟩))
   ·rintro b s' ⟨done,left,e,hl,hb,rfl⟩;cases left with
    |cons k' left=>obtain⟨_,_,e',_⟩:=hl;cases e'
    |nil =>
     rw[dY]at e;subst e;show wpAny _ _ (retInt (Af b.toList)) _ _ _;rw[hb];refine wpAny_ret_mkInt ?_;have h':Q (Ef (Af (TK.hashs w l))) { s with toks:=s.toks+(TK.drawss l+1) }:=h;show wpAny _ _ (if(decide (-(2:Int) ^ 63<=Af (TK.hashs w l)) && decide (Af (TK.hashs w l)<2 ^ 63))=true then _ else _) Q E _
     unfold Ef at h';by_cases hr:(decide (-(2:Int) ^ 63<=Af (TK.hashs w l)) && decide (Af (TK.hashs w l)<2 ^ 63))=true
     ·rw[if_pos hr];rw[if_pos hr]at h';exact aT (by simpa[Gg]using h')
     ·rw[if_neg hr];rw[if_neg hr]at h';exact ao (qO (aT (by simpa[Gg]using h')))
theorem CL(d:Nat)(ih:∀{A:Around}{E:Zc}{s:Shared}{x y:TK}{u v:Value}{Q:Bool->Shared->Prop},x.depth<=d->y.depth<=d->A.units+d<cLine->mf s.heap x u->mf s.heap y v->Q (decide (x=y)) s->wpAny (model prog w) A (eqBool u v) Q E s)
  {A:Around}{E:Zc}{s:Shared}{x y:List TK}{a b:Addr}{P:Fin->Shared->Prop}{oa ob:Obj}{xs ys:Array Value}{na nb:Nat}(hx:TK.depths x<=d) (hy:TK.depths y<=d) (hu:A.units+d<cLine)
  (hoa:s.heap.get? a=some oa) (hda:oa.data=.seq xs na) (hia:TAts s.heap x xs.toList) (hob:s.heap.get? b=some ob) (hcb:ob.cls=.type "tuple") (hdb:ob.data=.seq ys nb) (hib:TAts s.heap y ys.toList)
  (h:P (.done (.ret (.bool (decide (x=y))))) s):wpAny (model prog w) A (cE.«tuple.__eq__» ⟨[.ref a,.ref b],[]⟩) P E s:=by
 have hTb:s.TypeIs (.ref b) "tuple":=⟨ob,hob,hcb⟩;show wpAny _ _ (isInstance (.ref b) (.type "tuple") >>= _) _ _ s;refine ao (BE hTb isSubtype_tuple_tuple ?_);simp only[BD,sM,if_false];refine ao (wpAny_tupleItemsOf hoa hda ?_);refine ao (wpAny_tupleItemsOf hob hdb ?_);refine ao ?_;refine wpAny_forIn_list _
  (fun rest r s'=>r.1=none/\s'=s/\∃x' y' xs' ys',rest=List.zip xs' ys'/\TAts s.heap x' xs'/\TAts s.heap y' ys'/\TK.depths x'<=d/\TK.depths y'<=d/\decide (x'=y')=decide (x=y)/\(xs'.length==ys'.length)=(xs.size==ys.size))
  _ ?_ ?_ _ _ ⟨rfl,rfl,x,y,xs.toList,ys.toList,rfl,hia,hib,hx,hy,rfl,by simp⟩
 ·rintro⟨u,v⟩ rest r s' ⟨hr,rfl,x',y',xs',ys',hz,hx',hy',dx,dy,hdec,hlen⟩;cases x' with
  |nil =>
   have e:xs'=[]:=hx';subst e;simp at hz
  |cons k1 x'' =>
   obtain⟨u',xs'',rfl,h1,hx''⟩:=hx';cases y' with
   |nil =>
    have e:ys'=[]:=hy';subst e;simp at hz
   |cons k2 y'' =>
    obtain⟨v',ys'',rfl,h2,hy''⟩:=hy';simp only[List.zip_cons_cons,List.cons.injEq,Prod.mk.injEq]at hz;obtain⟨⟨rfl,rfl⟩,rfl⟩:=hz;have dx':max k1.depth (TK.depths x'')<=d:=dx;have dy':max k2.depth (TK.depths y'')<=d:=dy;refine ao (ih (x:=k1) (y:=k2) (by omega) (by omega) hu h1 h2 ?_);by_cases hk:k1=k2
    ·subst hk;rw[zzr1 rfl];simp only[BD,sM,if_false];refine aT ⟨rfl,rfl,x'',y'',xs'',ys'',rfl,hx'',hy'',by omega,by omega,?_,by simpa using hlen⟩;rw[<-hdec];by_cases hxy:x''=y''
     ·simp[hxy]
     ·simp[hxy]
    ·rw[zzr0 hk];simp only[Bool.not_false,if_true];have hf:decide (x=y)=false:=by rw[<-hdec];simp[hk]
     rw[hf]at h;exact ao (aT (aT (aT h)))
 ·rintro⟨r1,r2⟩ s' ⟨hr,rfl,x',y',xs',ys',hz,hx',hy',dx,dy,hdec,hlen⟩;simp only at hr;subst hr;refine aT ?_;have hfin:(xs.size==ys.size)=decide (x=y):=by
   rw[<-hdec,<-hlen];cases x' with
   |nil =>
    have e:xs'=[]:=hx';subst e;cases y' with
    |nil=>have e:ys'=[]:=hy';subst e;simp
    |cons _ _=>obtain⟨_,_,rfl,_⟩:=hy';simp
   |cons _ _ =>
    obtain⟨_,_,rfl,_⟩:=hx';cases y' with
    |nil=>have e:ys'=[]:=hy';subst e;simp
    |cons _ _=>obtain⟨_,_,rfl,_⟩:=hy';simp at hz
  show P (.done (.ret (.bool (xs.size==ys.size)))) s';rw[hfin];exact h
theorem Ja:∀(d:Nat) {A:Around}{E:Zc}{s:Shared}{x y:TK}{u v:Value}{Q:Bool->Shared->Prop},x.depth<=d->y.depth<=d->A.units+d<cLine->mf s.heap x u->mf s.heap y v->Q (decide (x=y)) s ->
  wpAny (model prog w) A (eqBool u v) Q E s:=by
 have mixed1:∀{A:Around}{E:Zc}{s:Shared}{a:nH}{l:List TK}{u v:Value}{Q:Bool->Shared->Prop},A.units<cLine->mf s.heap (.k a) u->mf s.heap (.t l) v->Q false s->wpAny (model prog w) A (eqBool u v) Q E s:=by
  intro A E s a l u v Q hu hx hy h;obtain⟨b,o,items,n,rfl,ho,hc,hdt,hi⟩:=hy;have ht:s.heap.IsTuple b items:=⟨o,ho,hc,n,hdt⟩;rcases bM (show iM a u=true from hx)with⟨i,t,rfl,rfl⟩|⟨i,t,rfl,rfl⟩|⟨rfl,rfl⟩
  ·exact aY.int_tuple i t ht hu prog w E Q h
  ·exact aY.str_tuple i t ht hu prog w E Q h
  ·exact aY.none_tuple ht hu prog w E Q h
 have mixed2:∀{A:Around}{E:Zc}{s:Shared}{a:nH}{l:List TK}{u v:Value}{Q:Bool->Shared->Prop},A.units<cLine->mf s.heap (.t l) u->mf s.heap (.k a) v->Q false s->wpAny (model prog w) A (eqBool u v) Q E s:=by
  intro A E s a l u v Q hu hx hy h;obtain⟨b,o,items,n,rfl,ho,hc,hdt,hi⟩:=hx;have ht:s.heap.IsTuple b items:=⟨o,ho,hc,n,hdt⟩;rcases bM (show iM a v=true from hy)with⟨i,t,rfl,rfl⟩|⟨i,t,rfl,rfl⟩|⟨rfl,rfl⟩
  ·exact aY.tuple_int i t ht hu prog w E Q h
  ·exact aY.tuple_str i t ht hu prog w E Q h
  ·exact aY.tuple_none ht hu prog w E Q h
 have leaves:∀{A:Around}{E:Zc}{s:Shared}{a b:nH}{u v:Value}{Q:Bool->Shared->Prop},mf s.heap (.k a) u->mf s.heap (.k b) v->Q (decide (TK.k a=TK.k b)) s->wpAny (model prog w) A (eqBool u v) Q E s:=by
  intro A E s a b u v Q hx hy h;refine(zB prog w).eqBool (a:=a) (b:=b) hx hy ?_;by_cases e:a=b
  ·subst e;simpa using h
  ·have:¬(TK.k a=TK.k b):=fun z=>e (by injection z);rw[zzr0 this]at h;rw[zzr0 e];exact h
 intro d
 induction d with
 |zero =>
  intro A E s x y u v Q hdx hdy hu hx hy h;cases x with
  |t l=>exact absurd hdx (by show ¬(TK.depths l+1<=0);omega)
  |k a =>
   cases y with
   |t l=>exact absurd hdy (by show ¬(TK.depths l+1<=0);omega)
   |k b=>exact leaves hx hy h
 |succ d ih =>
  intro A E s x y u v Q hdx hdy hu hx hy h;cases x with
  |k a =>
   cases y with
   |k b=>exact leaves hx hy h
   |t l =>
    rw[zzr0 (by intro z;cases z)]at h;exact mixed1 (by omega) hx hy h
  |t l =>
   cases y with
   |k b =>
    rw[zzr0 (by intro z;cases z)]at h;exact mixed2 (by omega) hx hy h
   |t m =>
    have hl:TK.depths l<=d:=by have:TK.depths l+1<=d+1:=hdx;omega
    have hm:TK.depths m<=d:=by have:TK.depths m+1<=d+1:=hdy;omega
    have hx0:=hx;have hy0:=hy;obtain⟨a,oa,xs,na,rfl,hoa,hca,hda,hia⟩:=hx;obtain⟨b,ob,ys,nb,rfl,hob,hcb,hdb,hib⟩:=hy;have hTa:s.TypeIs (.ref a) "tuple":=⟨oa,hoa,hca⟩;have hTb:s.TypeIs (.ref b) "tuple":=⟨ob,hob,hcb⟩;have hd':decide (TK.t l=TK.t m)=decide (l=m):=by
     by_cases e:l=m
     ·subst e;simp
     ·have:¬(TK.t l=TK.t m):=fun z=>e (by injection z);rw[zzr0 this,zzr0 e]
    unfold eqBool
    try with_reducible refine qN ?_
    show wpAny _ _ (if(Value.ref a==Value.ref b)=true then _ else _) Q E s
    by_cases hab:(Value.ref a==Value.ref b)=true
    ·rw[if_pos hab];have e:a=b:=by have:=eq_of_beq hab;injection this
     subst e;have e2:TK.t l=TK.t m:=mf.inj _ (ax _) hx0 hy0;rw[zzr1 e2]at h;exact ao (qO (aT h))
    ·rw[if_neg hab];rw[hd']at h;exact ao (wpAny_richCompare_same_room (op:=.Eq) hTa hTb F.slot_tuple_eq
      (wa F.slot_tuple_eq hTa F.entry_tuple_eq (CL d (fun h1 h2 h3 h4 h5 h6=>ih h1 h2 h3 h4 h5 h6) hl hm (by show A.units+1+d<cLine;omega) hoa hda hia hob hcb hdb hib ⟨_,rfl,(fun e=>nomatch e),sH h⟩) (F.args_tuple_eq_2 _ _)) (by omega))
theorem Es:∀(d:Nat) {A:Around}{E:Zc}{s:Shared}{k:TK}{v:Value}{Q:Bool->Shared->Prop},k.depth<=d->mf s.heap k v->Q true s->wpAny (model prog w) A (eqIsQuiet d v) Q E s:=by
 intro d
 induction d with
 |zero =>
  intro A E s k v Q hd hk h;cases k with
  |t l=>exact absurd hd (by show ¬(TK.depths l+1<=0);omega)
  |k a=>rw[eqIsQuiet_byValue _ ((zB prog w).byValue a v hk)];exact aT h
 |succ d ih =>
  intro A E s k v Q hd hk h;cases k with
  |k a=>rw[eqIsQuiet_byValue _ ((zB prog w).byValue a v hk)];exact aT h
  |t l =>
   have hl:TK.depths l<=d:=by have:TK.depths l+1<=d+1:=hd;omega
   obtain⟨a,o,items,n,rfl,ho,hc,hdt,hi⟩:=hk;have hT:s.TypeIs (.ref a) "tuple":=⟨o,ho,hc⟩;unfold eqIsQuiet;refine ao (Gh hT F.slot_tuple_eq.lookup ?_);show wpAny _ _ (isInstance (.ref a) (.type "tuple") >>= _) _ _ s;refine ao (BE hT isSubtype_tuple_tuple ?_);simp only[BD,sM,if_false];refine ao (mw ho hdt ?_);refine ao ?_;show wpAny _ _ (forIn items _ _) _ _ s;rw[<-Array.forIn_toList];refine wpAny_forIn_list _ (fun rest r s'=>r.1=none/\s'=s/\∃left,TAts s.heap left rest/\TK.depths left<=d) _ ?_ ?_ _ _ ⟨rfl,rfl,l,hi,hl⟩
   ·rintro v rest r s' ⟨hr,rfl,left,hall,hdl⟩;cases left with
    |nil=>have e:v::rest=[]:=hall;cases e
    |cons k' left =>
     obtain⟨v',rest',e,h1,h2⟩:=hall;cases e;have hdl':max k'.depth (TK.depths left)<=d:=hdl;refine ao (ih (k:=k') (by omega) h1 ?_);simp only[BD,sM,if_false];exact aT ⟨rfl,rfl,left,h2,by omega⟩
   ·rintro⟨r1,r2⟩ s' ⟨hr,rfl,_⟩;simp only at hr;subst hr;exact aT h
def ei(prog:bO)(w:World):HeapKind prog w TK where
 is:=fun h k a=>mf h k (.ref a)/\k.depth<=8
 hash:=TK.hash w
 draws:=TK.draws
 room:=fun A=>A.units+8<cLine
 inj:=fun hx hy=>mf.inj 8 hx.2 hx.1 hy.1
 keeps:=fun{h h' k a d o es ep} x ho hd hs=>⟨mf.mono (fun b ob items n hb _ hdb=>(hs.2 b fun e=>by
  subst e;rw[ho]at hb;cases hb;rw[hd]at hdb;cases hdb).trans hb) 8 x.2 x.1,x.2⟩
 pyHash:=fun hu hk h=>Gm 8 hk.2 hu hk.1 h
 eqBool:=fun hu hx hy h=>Ja 8 hx.2 hy.2 hu hx.1 hy.1 h
 quiet:=fun hk h=>Es 8 hk.2 hk.1 h
end
end L2
namespace L2
open PySem PySem.Spec PyProof.Rows
inductive V where
 |non|bl (b:Bool)|int (i:Int)|str (x:Str)|byt (b:Array UInt8)|flt (b:UInt64)|ref (a:Addr)|ty (n:String)
 deriving DecidableEq
def RelV:V->Value->Prop
 |.non,u=>u=Value.none
 |.bl b,u=>u=Value.bool b
 |.int i,u=>∃t,u=Value.int i t
 |.str x,u=>∃t,u=Value.str x t
 |.byt b,u=>∃t,u=Value.bytes b t
 |.flt b,u=>∃t,u=Value.float b t
 |.ref a,u=>u=Value.ref a
 |.ty n,u=>u=Value.type n
abbrev aR:List V->List Value->Prop:=Paired RelV
theorem aR.length{xs:List V}{us:Zf}(r:aR xs us):xs.length=us.length:=Paired.length r
theorem aR.get:∀{xs:List V}{us:Zf}{i:Nat}{x:V},aR xs us->xs[i]?=some x->∃u,us[i]?=some u/\RelV x u
 |_,_,_,_,.nil,e=>by simp at e
 |_,_,0,_,.cons r _,e=>by simp at e;subst e;exact⟨_,rfl,r⟩
 |_,_,i+1,x,.cons _ t,e=>by
  obtain⟨u,h1,h2⟩:=aR.get (i:=i) (x:=x) t (by simpa using e);exact⟨u,by simpa using h1,h2⟩
theorem aR.set{x:V}{u:Value}(r:RelV x u):∀{xs:List V}{us:Zf}(i:Nat),aR xs us->aR (xs.set i x) (us.set i u)
 |_,_,_,.nil=>.nil
 |_,_,0,.cons _ t=>.cons r t
 |_,_,i+1,.cons q t=>.cons q (aR.set r i t)
theorem aR.append:∀{xs ys:List V}{us ws:Zf},aR xs us->aR ys ws->aR (xs++ys) (us++ws)
 |_,_,_,_,.nil,s=>s
 |_,_,_,_,.cons r t,s=>.cons r (aR.append t s)
theorem aR.take:∀{xs:List V}{us:Zf}(n:Nat),aR xs us->aR (xs.take n) (us.take n)
 |_,_,0,_=>.nil
 |_,_,_+1,.nil=>.nil
 |_,_,n+1,.cons r t=>.cons r (aR.take n t)
theorem aR.drop:∀{xs:List V}{us:Zf}(n:Nat),aR xs us->aR (xs.drop n) (us.drop n)
 |_,_,0,r=>r
 |_,_,_+1,.nil=>.nil
 |_,_,n+1,.cons _ t=>aR.drop n t
def ko:Option V->Option Value->Prop
 |some v,some u=>RelV v u
 |none,none=>True
 |_,_=>False
def KV{κ:Type}:List (κ×V)->List (κ×Value)->Prop:=Paired fun(p:κ×V) (q:κ×Value)=>p.1=q.1/\RelV p.2 q.2
def kV:fw->V
 |.inl i=>.int i
 |.inr x=>.str x
def HS:nH->V
 |none=>.non
 |some k=>kV k
inductive HO where
 |lst (xs:List V)
 |tup (xs:List V)
 |dK (kvs:List (fw×V))|dT (kvs:List (TK×V))
 |set (S:Int->Bool) (n:Nat)
 |ins (C dx:Addr) (fs:List (Str×V))
 |own (x:Addr)
 |xd (fs:List (Str×V))
 |met (f x:Addr)
 |rng (lo hi:Int)
 |frz (o:Obj) (u:HO)
 |tbl (ps:Array Value)
 |ext (φ:Heap->Prop)
abbrev Hp:=Addr->Option HO
mutual
def dL(H:Hp):TK->V->Prop
 |.k a,v=>v=HS a
 |.t l,v=>∃b xs,v=.ref b/\H b=some (.tup xs)/\TKAts H l xs
def TKAts(H:Hp):List TK->List V->Prop
 |[],vs=>vs=[]
 |k::r,vs=>∃v us,vs=v::us/\dL H k v/\TKAts H r us
end
def aV(K:Za)(H:Hp)(a:Addr)(xs:List V):Prop :=
 H a=some (.tup xs)∨∃(o:Obj) (its:Array Value) (n:Nat),K.lookup a=some o/\o.cls=.type "tuple"/\o.data=.seq its n/\its.size<=aj/\aR xs its.toList
theorem aV.keeps{K:Za}{H H':Hp}{a:Addr}{xs:List V}(h:aV K H a xs)(ht:∀b xs,H b=some (.tup xs)->H' b=some (.tup xs)):aV K H' a xs:=h.imp (ht a xs) id
mutual
def q_(K:Za)(H:Hp):TK->V->Prop
 |.k a,v=>v=HS a
 |.t l,v=>∃b xs,v=.ref b/\aV K H b xs/\TKCs K H l xs
def TKCs(K:Za)(H:Hp):List TK->List V->Prop
 |[],vs=>vs=[]
 |k::r,vs=>∃v us,vs=v::us/\q_ K H k v/\TKCs K H r us
end
theorem q_.keeps{K:Za}{H H':Hp}(ht:∀b xs,H b=some (.tup xs)->H' b=some (.tup xs)):∀(d:Nat) {k:TK}{v:V},k.depth<=d->q_ K H k v->q_ K H' k v:=by
 have key:∀(d:Nat) (ih:∀{k:TK}{v:V},k.depth<=d->q_ K H k v->q_ K H' k v) (xs:List TK) (vs:List V),TK.depths xs<=d->TKCs K H xs vs->TKCs K H' xs vs:=by
  intro d ih xs
  induction xs with
  |nil=>intro vs _ hx;exact hx
  |cons x xs ihl =>
   intro vs hd hx;obtain⟨v,us,rfl,hx1,hx2⟩:=hx;have hd':max x.depth (TK.depths xs)<=d:=hd;exact⟨v,us,rfl,ih (by omega) hx1,ihl us (by omega) hx2⟩
 intro d
 induction d with
 |zero =>
  intro k v hd hx;cases k with
  |t l=>exact absurd hd (by show ¬(TK.depths l+1<=0);omega)
  |k a=>exact hx
 |succ d ih =>
  intro k v hd hx;cases k with
  |k a=>exact hx
  |t l =>
   obtain⟨b,xs,rfl,hb,hi⟩:=hx;exact⟨b,xs,rfl,hb.keeps ht,key d (fun h1=>ih h1) l xs (by have:TK.depths l+1<=d+1:=hd;omega) hi⟩
theorem dL.c{K:Za}{H:Hp}:∀(d:Nat) {k:TK}{v:V},k.depth<=d->dL H k v->q_ K H k v:=by
 have key:∀(d:Nat) (ih:∀{k:TK}{v:V},k.depth<=d->dL H k v->q_ K H k v) (xs:List TK) (vs:List V),TK.depths xs<=d->TKAts H xs vs->TKCs K H xs vs:=by
  intro d ih xs
  induction xs with
  |nil=>intro vs _ hx;exact hx
  |cons x xs ihl =>
   intro vs hd hx;obtain⟨v,us,rfl,hx1,hx2⟩:=hx;have hd':max x.depth (TK.depths xs)<=d:=hd;exact⟨v,us,rfl,ih (by omega) hx1,ihl us (by omega) hx2⟩
 intro d
 induction d with
 |zero =>
  intro k v hd hx;cases k with
  |t l=>exact absurd hd (by show ¬(TK.depths l+1<=0);omega)
  |k a=>exact hx
 |succ d ih =>
  intro k v hd hx;cases k with
  |k a=>exact hx
  |t l =>
   obtain⟨b,xs,rfl,hb,hi⟩:=hx;exact⟨b,xs,rfl,.inl hb,key d (fun h1=>ih h1) l xs (by have:TK.depths l+1<=d+1:=hd;omega) hi⟩
def upd(H:Hp)(a:Addr)(o:HO):Hp:=fun b=>if b=a then some o else H b
theorem aa{H:Hp}{a:Addr}{o:HO}:upd H a o a=some o:=by unfold upd;rw[if_pos rfl]
theorem ah{H:Hp}{a b:Addr}{o:HO}(h:b≠a):upd H a o b=H b:=by unfold upd;rw[if_neg h]
theorem rZ{H:Hp}{a:Addr}{o u:HO}:upd (upd H a o) a u=upd H a u:=by
 funext b;unfold upd;split<;>rfl
theorem Fk{H:Hp}{a b:Addr}{o u:HO}(h:H a=some o)(h':H b=some u)(d:o≠u):a≠b:=by
 intro e;subst e;rw[h]at h';exact d (ff h')
theorem ae{H:Hp}{a b:Addr}{o:HO}(h:H a=some o)(h':H b=none):a≠b:=by
 intro e;subst e;rw[h]at h';cases h'
section
variable(P:bO)(w:World)(K:Za)
def cB(H:Hp)(h:Heap)(a:Addr):HO->Prop
 |.lst xs=>xs.length<=aj/\∃(its:Zf) (n:Nat),aR xs its/\h.get? a=some { cls:=.type "list",data:=.seq its.toArray n }
 |.tup xs=>xs.length<=aj/\∃its:List Value,aR xs its/\IsTup h a its.toArray
 |.dK kvs=>kvs.length<=aj/\(a==ia)=false/\∃vs,KV kvs vs/\h.DictOf (cn P w) a vs
 |.dT kvs=>kvs.length<=aj/\(a==ia)=false/\∃xs:List (TK×Addr×Value),
   Paired (fun(p:TK×V) (q:TK×Addr×Value)=>p.1=q.1/\q_ K H p.1 (.ref q.2.1)/\p.1.depth<=8/\RelV p.2 q.2.2) kvs xs /\
   ∃o es ep,h.get? a=some o/\o.ExactDict/\o.data=.dict es ep/\es.toList=xs.map (entryOfKey (ei P w))/\(xs.map (·.1)).Nodup
 |.set S n=>h.SetOf (intKind P w) a S n
 |.ins C dx fs=>H dx=some (.own a)/\fs.length<=1000/\dx≠a/\h.get? a=some (qM C dx) /\
   ∃mA,h.Ns1 dx mA/\(∀f,ko (fs.lookup f) (mA f))/\PySem.Within mA (fs.map (·.1))
 |.own _=>∃o,h.get? a=some o
 |.xd fs=>∃mA,h.Ns1 a mA/\∀f,ko (fs.lookup f) (mA f)
 |.rng lo hi=>∃t u v,h.get? a=some { cls:=.type "range",data:=.fields #[.int lo t,.int hi u,.int 1 v] }
 |.frz o u=>h.get? a=some o/\cB H h a u
 |.tbl ps=>h.get? a=some { cls:=.none,data:=.fields ps }
 |.met f x=>h.get? a=some (PySem.W.methodObj (.ref f) (.ref x))
 |.ext φ=>φ h/\(∃o,h.get? a=some o)/\∀h1 h2:Heap,φ h1->(∀o,h1.get? a=some o->h2.get? a=some o)->φ h2
def lT(H:Hp)(h:Heap):Prop:=∀a o,H a=some o->cB P w K H h a o
end
section
variable{P:bO}{w:World}{K:Za}{H H':Hp}{h h':Heap}{a:Addr}{o:HO}
theorem cB.lt(x:cB P w K H h a o):a<h.objs.size:=by
 cases o with
 |lst xs=>obtain⟨_,_,_,_,e⟩:=x;exact aU e
 |tup xs=>obtain⟨_,_,_,p⟩:=x;exact p.lt
 |dK kvs=>obtain⟨_,_,_,_,o,_,_,e,_⟩:=x;exact aU e
 |dT kvs=>obtain⟨_,_,_,_,o,_,_,e,_⟩:=x;exact aU e
 |set S n=>obtain⟨o,_,_,_,e,_⟩:=x;exact aU e
 |ins C dx fs=>obtain⟨_,_,_,e,_⟩:=x;exact aU e
 |own y=>obtain⟨_,e⟩:=x;exact aU e
 |xd fs=>obtain⟨_,⟨_,_,_,e,_⟩,_⟩:=x;exact aU e
 |rng lo hi=>obtain⟨_,_,_,e⟩:=x;exact aU e
 |frz ob u=>obtain⟨e,_⟩:=x;exact aU e
 |tbl ps=>exact aU (show h.get? a=some _ from x)
 |met f y=>exact aU (show h.get? a=some _ from x)
 |ext φ=>obtain⟨_,⟨_,e⟩,_⟩:=x;exact aU e
theorem Paired.mapP{α β:Type}{F G:α->β->Prop}:∀{l₁:List α}{l₂:List β},Paired F l₁ l₂->(∀a b,F a b->G a b)->Paired G l₁ l₂
 |_,_,.nil,_=>.nil
 |_,_,.cons r t,f=>.cons (f _ _ r) (Paired.mapP t f)
theorem cB.stay(x:cB P w K H h a o)(k:∀b u,(b=a∨H b=some (.own a))->h.get? b=some u->h'.get? b=some u)
  (ho:∀b,H b=some (.own a)->H' b=some (.own a)) (ht:∀b xs,H b=some (.tup xs)->H' b=some (.tup xs)):cB P w K H' h' a o:=by
 induction o with
 |lst xs=>obtain⟨z,its,n,r,e⟩:=x;exact⟨z,its,n,r,k _ _ (.inl rfl) e⟩
 |tup xs=>obtain⟨z,its,r,ob,e,c⟩:=x;exact⟨z,its,r,ob,k _ _ (.inl rfl) e,c⟩
 |dK kvs=>obtain⟨z,y,vs,r,ob,es,ep,e,c⟩:=x;exact⟨z,y,vs,r,ob,es,ep,k _ _ (.inl rfl) e,c⟩
 |dT kvs =>
  obtain⟨z,y,xs,r,ob,es,ep,e,c⟩:=x;exact⟨z,y,xs,Paired.mapP r fun p q z=>⟨z.1,q_.keeps ht 8 z.2.2.1 z.2.1,z.2.2⟩,ob,es,ep,k _ _ (.inl rfl) e,c⟩
 |set S n=>obtain⟨ob,es,ep,t,e,c⟩:=x;exact⟨ob,es,ep,t,k _ _ (.inl rfl) e,c⟩
 |ins C dx fs =>
  obtain⟨d,z,ne,e,mA,⟨od,es,ep,e2,c⟩,r⟩:=x;exact⟨ho _ d,z,ne,k _ _ (.inl rfl) e,mA,⟨od,es,ep,k _ _ (.inr d) e2,c⟩,r⟩
 |own y=>obtain⟨ob,e⟩:=x;exact⟨ob,k _ _ (.inl rfl) e⟩
 |xd fs=>obtain⟨mA,⟨od,es,ep,e,c⟩,r⟩:=x;exact⟨mA,⟨od,es,ep,k _ _ (.inl rfl) e,c⟩,r⟩
 |rng lo hi=>obtain⟨t,u,v,e⟩:=x;exact⟨t,u,v,k _ _ (.inl rfl) e⟩
 |frz ob u ih=>obtain⟨e,q⟩:=x;exact⟨k _ _ (.inl rfl) e,ih q⟩
 |tbl ps =>
  have e:h.get? a=some { cls:=.none,data:=.fields ps }:=x;show h'.get? a=some { cls:=.none,data:=.fields ps };exact k a _ (.inl rfl) e
 |met f y =>
  have e:h.get? a=some (PySem.W.methodObj (.ref f) (.ref y)):=x;show h'.get? a=some (PySem.W.methodObj (.ref f) (.ref y));exact k a _ (.inl rfl) e
 |ext φ=>obtain⟨p,⟨o,e⟩,st⟩:=x;exact⟨st _ _ p fun o q=>k _ _ (.inl rfl) q,⟨o,k _ _ (.inl rfl) e⟩,st⟩
theorem lT.lt(x:lT P w K H h)(e:H a=some o):a<h.objs.size:=(x a o e).lt
theorem lT.fresh(x:lT P w K H h)(e:h.objs.size<=a):H a=none:=by
 cases q:H a with
 |none=>rfl
 |some u=>exact absurd (gL (x.lt q) e) (mv _)
theorem lT.kept(x:lT P w K H h)(k:∀b u,h.get? b=some u->h'.get? b=some u):lT P w K H h':=fun a o e =>
 (x a o e).stay (fun b u _ q=>k b u q) (fun _ q=>q) fun _ _ q=>q
theorem lT.laid(x:lT P w K H h)(k:∀b u,h.get? b=some u->h'.get? b=some u)(hp:h.objs.size<=a)(new:cB P w K (upd H a o) h' a o):lT P w K (upd H a o) h':=fun b u e=>by
 have hn:=x.fresh hp;by_cases hb:b=a
 ·subst hb;rw[aa]at e;cases e;exact new
 ·rw[ah hb]at e;exact(x b u e).stay (fun c v _ q=>k c v q) (fun c q=>by rw[ah (ae q hn)];exact q) fun c xs q=>by rw[ah (ae q hn)];exact q
end
def Rd(H:Hp)(a:Addr)(u:HO):Prop:=H a=some u∨∃o,H a=some (.frz o u)
theorem Rd.ok{P:bO}{w:World}{K:Za}{H:Hp}{h:Heap}{a:Addr}{u:HO}(r:Rd H a u)(x:lT P w K H h):cB P w K H h a u:=by
 rcases r with r|⟨o,r⟩
 ·exact x a u r
 ·obtain⟨_,q⟩:=x a _ r;exact q
def Jw:Option HO->Prop
 |some (.lst _)=>True
 |some (.dK _)=>True
 |some (.dT _)=>True
 |some (.set _ _)=>True
 |some (.ins _ _ _)=>True
 |some (.ext _)=>True
 |_=>False
section
variable{P:bO}{w:World}{K:Za}{H:Hp}{h h':Heap}{x e:Addr}{o':HO}
theorem lT.write(ok:lT P w K H h)(mu:Jw (H x))(he:e=x∨H e=some (.own x))(k:∀b u,b≠e->h.get? b=some u->h'.get? b=some u)(heo:∃u,h'.get? e=some u)
  (new:cB P w K (upd H x o') h' x o'):lT P w K (upd H x o') h':=fun b u q=>by
 have nown:∀c y,H c=some (.own y)->c≠x:=fun c y r z=>by subst z;rw[r]at mu;exact mu
 have ntup:∀c xs,H c=some (.tup xs)->c≠x:=fun c xs r z=>by subst z;rw[r]at mu;exact mu
 by_cases hb:b=x
 ·subst hb;rw[aa]at q;cases q;exact new
 ·rw[ah hb]at q;by_cases hbe:b=e
  ·have q':H b=some (.own x):=by
    rcases he with z|z
    ·exact absurd (hbe.trans z) hb
    ·rw[hbe];exact z
   rw[q]at q';cases q';obtain⟨v,hv⟩:=heo;exact⟨v,by rw[hbe];exact hv⟩
  ·refine(ok b u q).stay (fun c v hc r=>k c v ?_ r) (fun c r=>by rw[ah (nown c b r)];exact r) fun c xs r=>by rw[ah (ntup c xs r)];exact r
   rcases hc with rfl|hc
   ·exact hbe
   ·rintro rfl;rcases he with z|z
    ·exact nown c b hc z
    ·rw[hc]at z;cases z;exact hb rfl
end
structure Un(fs ex:Ze)(H H':Hp)(h h':Heap):Prop where
 keep:∀b o,h.get? b=some o->H b=none->b∉fs->b∉ex->h'.get? b=some o
 slot:∀b o,h.get? b=some o->H b=none->b∈fs->b∉ex->∃sl,h'.get? b=some { o with slots:=sl }
 free:∀b o,h.get? b=some o->H b=none->b∉ex->H' b=none
 there:∀b o,h.get? b=some o->b∉ex->∃o',h'.get? b=some o'
 tups:∀b xs,H b=some (.tup xs)->H' b=some (.tup xs)
 frzs:∀b o u,H b=some (.frz o u)->H' b=some (.frz o u)
 tbls:∀b ps,H b=some (.tbl ps)->∃more,H' b=some (.tbl (ps++more))
section
variable{fs fs' ex ex':Ze}{H H1 H2:Hp}{h h1 h2 h':Heap}{a x e:Addr}{o:HO}
theorem Un.any(u:Un fs ex H H1 h h1){b:Addr}{ob:Obj}(q:h.get? b=some ob)(n:H b=none)(hx:b∉ex):∃sl,h1.get? b=some { ob with slots:=sl }:=by
 by_cases hb:b∈fs
 ·exact u.slot b ob q n hb hx
 ·exact⟨ob.slots,u.keep b ob q n hb hx⟩
theorem Un.kept(k:∀b u,h.get? b=some u->h'.get? b=some u):Un fs ex H H h h' :=
 ⟨fun b ob q _ _ _=>k b ob q,fun b ob q _ _ _=>⟨ob.slots,k b ob q⟩,fun _ _ _ n _=>n,fun b ob q _=>⟨ob,k b ob q⟩,fun _ _ q=>q,fun _ _ _ q=>q,fun _ ps q=>⟨#[],by rw[q];simp⟩⟩
theorem Un.refl:Un fs ex H H h h:=Un.kept fun _ _ q=>q
theorem Un.laid(k:∀b u,h.get? b=some u->h'.get? b=some u)(hp:h.objs.size<=a)(hn:H a=none):Un fs ex H (upd H a o) h h' where
 keep:=fun b u q _ _ _=>k b u q
 slot:=fun b u q _ _ _=>⟨u.slots,k b u q⟩
 free:=fun b u q n _=>by rw[ah (db (gL (aU q) hp))];exact n
 there:=fun b u q _=>⟨u,k b u q⟩
 tups:=fun b xs q=>by rw[ah (ae q hn)];exact q
 frzs:=fun b u xs q=>by rw[ah (ae q hn)];exact q
 tbls:=fun b ps q=>⟨#[],by rw[ah (ae q hn),q];simp⟩
theorem Un.write(mu:Jw (H x))(he:e=x∨H e=some (.own x))(k:∀b u,b≠e->h.get? b=some u->h'.get? b=some u)(heo:∃u,h'.get? e=some u):Un fs ex H (upd H x o) h h':=by
 have hx:∀b,H b=none->b≠x:=fun b n z=>by subst z;rw[n]at mu;exact mu
 have hb:∀b,H b=none->b≠e:=fun b n z=>by
  subst z;rcases he with r|r
  ·exact hx b n r
  ·rw[n]at r;cases r
 have hm:∀b u,H b=some u->¬Jw (some u)->b≠x:=fun b u q nm z=>by subst z;rw[q]at mu;exact nm mu
 refine⟨fun b u q n _ _=>k b u (hb b n) q,fun b u q n _ _=>⟨u.slots,k b u (hb b n) q⟩,fun b u q n _=>by rw[ah (hx b n)];exact n,fun b u q _=>?_,
  fun b xs q=>by rw[ah (hm b _ q fun z=>z)];exact q,fun b u xs q=>by rw[ah (hm b _ q fun z=>z)];exact q,fun b ps q=>⟨#[],by rw[ah (hm b _ q fun z=>z),q];simp⟩⟩
 by_cases hbe:b=e
 ·subst hbe;exact heo
 ·exact⟨u,k b u hbe q⟩
end
def JH(h:Heap)(H:Hp):List Addr:=(nS h.objs.size).filter fun a=>(H a).isSome
def xP(h:Heap)(H:Hp):Heap:=PySem.W.hideAll h (JH h H)
theorem Dv(h:Heap)(H:Hp):(xP h H).objs.size=h.objs.size:=PySem.W.hideAll_size _ _
theorem FA{h:Heap}{H:Hp}{b:Addr}{o:Obj}(e:h.get? b=some o)(n:H b=none):(xP h H).get? b=some o :=
 PySem.W.hideAll_get _ e fun hm=>by
  have q:(H b).isSome=true:=(fb.mp hm).2;rw[n]at q;simp at q
theorem G_{h:Heap}{H:Hp}{b:Addr}{o:Obj}(e:(xP h H).get? b=some o):h.get? b=some o/\H b=none:=by
 have e':h.get? b=some o:=PySem.W.of_hideAll (JH h H) e;refine⟨e',?_⟩;cases q:H b with
 |none=>rfl
 |some x =>
  have hm:b∈JH h H:=fb.mpr ⟨List.mem_range.mpr (aU e'),by simp[q]⟩;have z:(xP h H).get? b=none:=PySem.W.hideAll_none (JH h H) hm;rw[z]at e;cases e
end L2
namespace L2
open PySem PySem.Spec PyProof.Rows
structure Mod(K:Za)(mg:Str->Option Value)(base:Heap):Prop where
 kin:K.In base
 glob:base.Ns bH mg
 blt:∃mb,base.Ns builtinsNs mb/\∀x:Str,x≠"__name__"->mb x=mr x
 nolimit:base.NoLimit
structure Cx where
 prog:bO
 w:World
 K:Za
 mg:Str->Option Value
 base:Heap
 A:Around
 N:List Str
 s₀:Shared
 H₀:Hp
 env:Env
 outer:List Env
 stack:List Env
 ex:List Addr
 fn:Str->Bool
 calm:Bool
 pn:List (Addr×Obj)
 xe:Value->Shared->Prop
def Eb(l:List Env):List Addr:=l.filterMap (·.frame)
abbrev Cx.fs(X:Cx):List Addr:=Eb X.outer
def JJ(sc:Scope)(x:Str):Prop:=sc.names.lookup x=some .local∨sc.names.lookup x=some .cell∨sc.names.lookup x=some .free
def Loc(sc:Scope)(x:Str):Prop:=sc.names.lookup x=some .local∨sc.names.lookup x=some .cell
def Look(env:Env)(h:Heap)(m:Str->Option Value)(x:Str)(u:Value):Prop :=
 (env.kindOf x=some .local/\m x=some u)∨((env.kindOf x=some .cell∨env.kindOf x=some .free)/\∃c,env.cells.lookup x=some c/\h.IsCell c (some u))
structure Cx.Ok(X:Cx):Prop where
 mod:Mod X.K X.mg X.base
 kind:X.env.scope.kind=.function
 glob:X.env.globals=bH
 blt:X.env.builtins=builtinsNs
 above:X.s₀.heap.objs.size<=X.env.locals
 inj:∀x y c,X.env.cells.lookup x=some c->X.env.cells.lookup y=some c->x=y
 has:∀x,(X.env.kindOf x=some .cell∨X.env.kindOf x=some .free)->∃c,X.env.cells.lookup x=some c
 cab:∀x c,X.fn x=true->X.env.cells.lookup x=some c->X.s₀.heap.objs.size<=c
 hd:X.calm=true->X.A.handled=none
 frames:X.A.frames=some X.stack
 stk:X.stack=X.outer∨(X.stack=X.env::X.outer/\X.env.frame=some X.env.locals)
 exf:∀b∈X.ex,b≠X.env.locals/\∀x c,X.env.cells.lookup x=some c->c≠b
 bs:∀b o,X.base.get? b=some o->X.s₀.heap.get? b=some o/\X.H₀ b=none
 bsz:X.base.objs.size<=X.s₀.heap.objs.size
 noex:∀b o,X.base.get? b=some o->b∉X.ex
 exfs:∀b∈X.ex,b∉X.fs
 funs:X.s₀.heap.FunFrames X.base X.outer
 frf:∀b∈X.fs,X.H₀ b=none
structure Inv(X:Cx)(J5:Zd)(σ:List (Option V))(H:Hp)(s:Shared):Prop where
 ok:X.Ok
 os:s.os=X.s₀.os
 bare:nR s.gens
 base:Un X.fs X.ex X.H₀ H X.s₀.heap s.heap
 loc:∃m,s.heap.Ns X.env.locals m/\∀(i:Nat) (x:Str) (v:V),X.N[i]?=some x->σ[i]?=some (some v)->JJ X.env.scope x->∃u,RelV v u/\Look X.env s.heap m x u
 cell:∀x c,X.env.cells.lookup x=some c->∃v,s.heap.IsCell c v
 free:H X.env.locals=none
 freeC:∀x c,X.env.cells.lookup x=some c->H c=none
 pin:∀p∈X.pn++J5,s.heap.get? p.1=some p.2/\H p.1=none/\p.1≠X.env.locals/\p.1∉X.fs/\∀v,p.2.data≠.cell v
 hok:lT X.prog X.w X.K H s.heap
 len:σ.length=X.N.length
section
variable{X:Cx}{J5:Zd}{σ:List (Option V)}{H H':Hp}{s:Shared}{h':Heap}
theorem Cx.Ok.nofr(ok:X.Ok){b:Addr}{o:Obj}(e:X.base.get? b=some o):b∉X.fs:=fun hb=>by
 have:=(ok.funs.mem hb).1;rw[e]at this;cases this
theorem Inv.bs(I:Inv X J5 σ H s):∀b o,X.base.get? b=some o->s.heap.get? b=some o/\H b=none:=fun b o e =>
 ⟨I.base.keep b o (I.ok.bs b o e).1 (I.ok.bs b o e).2 (I.ok.nofr e) (I.ok.noex b o e),I.base.free b o (I.ok.bs b o e).1 (I.ok.bs b o e).2 (I.ok.noex b o e)⟩
theorem Inv.bk(I:Inv X J5 σ H s):∀b o,X.base.get? b=some o->s.heap.get? b=some o:=fun b o e=>(I.bs b o e).1
theorem Inv.mod(I:Inv X J5 σ H s):Mod X.K X.mg X.base:=I.ok.mod
theorem Inv.kIn(I:Inv X J5 σ H s):X.K.In s.heap:=I.ok.mod.kin.keeps I.bk
theorem Inv.fr(I:Inv X J5 σ H s):∃m,Fr X.base X.env.locals s.heap m :=
 let⟨m,hn,_⟩:=I.loc
 ⟨m,hn,I.bk,aG I.ok.bsz I.ok.above⟩
theorem Inv.lt(I:Inv X J5 σ H s):X.env.locals<s.heap.objs.size:=let⟨_,hn,_⟩:=I.loc;hn.lt
theorem Inv.sz(I:Inv X J5 σ H s):X.s₀.heap.objs.size<=s.heap.objs.size:=aG I.ok.above (c6 I.lt)
theorem Inv.nofs(I:Inv X J5 σ H s){a:Addr}(h:s.heap.objs.size<=a):a∉X.fs:=fun hb=>by
 obtain⟨_,o,ho,_⟩:=I.ok.funs.mem hb;exact absurd (gL (aU ho) (aG I.sz h)) (mv _)
theorem Inv.cne(I:Inv X J5 σ H s):∀x c,X.env.cells.lookup x=some c->c≠X.env.locals:=fun x c e z=>by
 obtain⟨v,o,ho,hd⟩:=I.cell x c e;obtain⟨m,⟨o',es,ep,ho',hd',_⟩,_⟩:=I.loc;rw[z,ho']at ho;cases ho;rw[hd']at hd;cases hd
theorem Inv.funs(I:Inv X J5 σ H s):s.heap.FunFrames X.base X.outer:=by
 have all:∀(l:List Env),(∀b∈Eb l,b∈X.fs)->X.s₀.heap.FunFrames X.base l->s.heap.FunFrames X.base l:=by
  intro l
  induction l with
  |nil=>intro _ _;trivial
  |cons env r ih =>
   intro hs hl;obtain⟨hk,⟨L,o,hf,hn,ho,hd⟩,hr⟩:=hl;have hL:L∈X.fs:=hs L (by unfold Eb;rw[List.filterMap_cons,hf];exact dI);obtain⟨sl,e⟩:=I.base.slot L o ho (I.ok.frf L hL) hL fun z=>I.ok.exfs L z hL;exact⟨hk,⟨L,_,hf,hn,e,hd⟩,ih (fun b hb=>hs b (by unfold Eb;rw[List.filterMap_cons,hf];exact dX _ hb)) hr⟩
 exact all X.outer (fun _ hb=>hb) I.ok.funs
theorem Inv.stack(I:Inv X J5 σ H s):s.heap.FunFrames X.base X.stack:=by
 rcases I.ok.stk with e|⟨e,hf⟩
 ·rw[e];exact I.funs
 ·rw[e];obtain⟨m,hn,_⟩:=I.loc;refine .cons (by rw[I.ok.kind];decide) hf hn ?_ I.funs;exact Heap.get?_none_of_le (aG I.ok.bsz I.ok.above)
theorem Inv.stkSub(I:Inv X J5 σ H s):∀b∈Eb X.stack,b∈X.env.locals::X.fs:=fun b hb=>by
 rcases I.ok.stk with e|⟨e,hf⟩
 ·rw[e]at hb;exact dX _ hb
 ·rw[e]at hb;unfold Eb at hb;rw[List.filterMap_cons,hf]at hb;exact hb
theorem Inv.stkFree(I:Inv X J5 σ H s):∀b∈Eb X.stack,H b=none:=fun b hb=>by
 rcases cy.mp (I.stkSub b hb)with e|hb
 ·rw[e];exact I.free
 ·obtain⟨_,o,ho,_⟩:=I.ok.funs.mem hb;exact I.base.free b o ho (I.ok.frf b hb) fun z=>I.ok.exfs b z hb
theorem Inv.step{g':Array GenState}{t':Nat}{d':Drawn}{ch:Ze}(I:Inv X J5 σ H s)
  (hch:∀b∈ch,(b∈X.ex∨X.s₀.heap.objs.size<=b)/\b≠X.env.locals/\(∀x c,X.env.cells.lookup x=some c->c≠b)/\∀p∈X.pn++J5,p.1≠b)
  (keep:∀b o,b≠X.env.locals->b∉X.fs->b∉ch->s.heap.get? b=some o->H b=none->h'.get? b=some o)
  (slot:∀b o,b≠X.env.locals->b∈X.fs->b∉ch->s.heap.get? b=some o->H b=none->∃sl,h'.get? b=some { o with slots:=sl }) (free:∀b o,b∉ch->s.heap.get? b=some o->H b=none->H' b=none)
  (there:∀b o,b∉ch->s.heap.get? b=some o->∃o',h'.get? b=some o')
  (tups:∀b xs,H b=some (.tup xs)->H' b=some (.tup xs)) (frzs:∀b o u,H b=some (.frz o u)->H' b=some (.frz o u)) (tbls:∀b ps,H b=some (.tbl ps)->∃more,H' b=some (.tbl (ps++more)))
  (ns:∀m,s.heap.Ns X.env.locals m->h'.Ns X.env.locals m) (hok:lT X.prog X.w X.K H' h') (hg:nR g') :
  Inv X J5 σ H' { s with heap:=h',gens:=g',drawn:=d',toks:=t' }:=by
 have neL:∀b o,X.s₀.heap.get? b=some o->b≠X.env.locals:=fun b o e=>db (gL (aU e) I.ok.above);have neC:∀b o,X.s₀.heap.get? b=some o->b∉X.ex->b∉ch:=fun b o e hx hb=>by
  rcases(hch b hb).1 with z|z
  ·exact hx z
  ·exact absurd (gL (aU e) z) (mv _)
 have cellK:∀x c,X.env.cells.lookup x=some c->∀v,s.heap.IsCell c v->h'.IsCell c v:=fun x c e v ⟨o,ho,hd⟩=>by
  have nch:c∉ch:=fun z=>(hch c z).2.2.1 x c e rfl;by_cases hc:c∈X.fs
  ·obtain⟨sl,q⟩:=slot c o (I.cne x c e) hc nch ho (I.freeC x c e);exact⟨_,q,hd⟩
  ·exact⟨o,keep c o (I.cne x c e) hc nch ho (I.freeC x c e),hd⟩
 refine⟨I.ok,I.os,hg,⟨fun b o e n hb hx=>?_,fun b o e n hb hx=>?_,fun b o e n hx=>?_,fun b o e hx=>?_,fun b xs e=>tups b xs (I.base.tups b xs e),fun b o xs e=>frzs b o xs (I.base.frzs b o xs e),fun b ps e=>?_⟩,?_,fun x c e=>?_,?_,fun x c e=>?_,fun p hp=>?_,hok,I.len⟩
 ·exact keep b o (neL b o e) hb (neC b o e hx) (I.base.keep b o e n hb hx) (I.base.free b o e n hx)
 ·obtain⟨sl,e1⟩:=I.base.slot b o e n hb hx;obtain⟨sl',e2⟩:=slot b _ (neL b o e) hb (neC b o e hx) e1 (I.base.free b o e n hx);exact⟨sl',e2⟩
 ·obtain⟨o',e1⟩:=I.base.there b o e hx;exact free b o' (neC b o e hx) e1 (I.base.free b o e n hx)
 ·obtain⟨o',e1⟩:=I.base.there b o e hx;exact there b o' (neC b o e hx) e1
 ·obtain⟨m1,e1⟩:=I.base.tbls b ps e;obtain⟨m2,e2⟩:=tbls b _ e1;exact⟨m1++m2,by rw[e2,Array.append_assoc]⟩
 ·obtain⟨m,hn,hl⟩:=I.loc;refine⟨m,ns m hn,fun i x v e1 e2 e3=>?_⟩;obtain⟨u,r,l⟩:=hl i x v e1 e2 e3;refine⟨u,r,?_⟩;rcases l with l|⟨k,c,e,z⟩
  ·exact .inl l
  ·exact .inr ⟨k,c,e,cellK x c e _ z⟩
 ·obtain⟨v,z⟩:=I.cell x c e;exact⟨v,cellK x c e v z⟩
 ·obtain⟨m,⟨o,_,_,ho,_⟩,_⟩:=I.loc;exact free _ o (fun z=>(hch _ z).2.1 rfl) ho I.free
 ·obtain⟨v,o,ho,hd⟩:=I.cell x c e;exact free c o (fun z=>(hch c z).2.2.1 x c e rfl) ho (I.freeC x c e)
 ·obtain⟨e,n,ne,nf,d⟩:=I.pin p hp;have nch:p.1∉ch:=fun z=>(hch p.1 z).2.2.2 p hp rfl;exact⟨keep p.1 p.2 ne nf nch e n,free p.1 p.2 nch e n,ne,nf,d⟩
theorem Inv.un{t':Nat}(I:Inv X J5 σ H s)(u:Un X.fs [] H H' s.heap h')(hok:lT X.prog X.w X.K H' h'):Inv X J5 σ H' { s with heap:=h',toks:=t' }:=by
 obtain⟨m,⟨o,es,ep,ho,r⟩,_⟩:=id I.loc;obtain⟨sl,hL⟩:=u.any ho I.free (by simp);exact I.step (g':=s.gens) (d':=s.drawn) (ch:=[]) (fun _ z=>nomatch z) (fun b o _ hb _ e n=>u.keep b o e n hb (by simp)) (fun b o _ hb _ e n=>u.slot b o e n hb (by simp)) (fun b o _ e n=>u.free b o e n (by simp)) (fun b o _ e=>u.there b o e (by simp)) u.tups u.frzs u.tbls (fun m' hm=>by
  obtain⟨o',es',ep',ho',r'⟩:=hm;rw[ho]at ho';cases ho';exact⟨_,es',ep',hL,r'⟩) hok I.bare
theorem Inv.call{g':Array GenState}{t':Nat}{d':Drawn}{ch:Ze}(I:Inv X J5 σ H s)(u:Un (Eb X.stack) ch H H' s.heap h')(hok:lT X.prog X.w X.K H' h')(hg:nR g')
  (hch:∀b∈ch,(b∈X.ex∨X.s₀.heap.objs.size<=b)/\b≠X.env.locals/\(∀x c,X.env.cells.lookup x=some c->c≠b)/\∀p∈X.pn++J5,p.1≠b) :
  Inv X J5 σ H' { s with heap:=h',gens:=g',drawn:=d',toks:=t' }:=by
 obtain⟨m,⟨o,es,ep,ho,r⟩,_⟩:=id I.loc;obtain⟨sl,hL⟩:=u.any ho I.free fun z=>(hch _ z).2.1 rfl;exact I.step (ch:=ch) hch (fun b o hL hb hc e n=>u.keep b o e n (fun z=>(cy.mp (I.stkSub b z)).elim hL hb) hc) (fun b o _ _ hc e n=>u.any e n hc) (fun b o hc e n=>u.free b o e n hc) (fun b o hc e=>u.there b o e hc) u.tups u.frzs u.tbls (fun m' hm=>by
  obtain⟨o',es',ep',ho',r'⟩:=hm;rw[ho]at ho';cases ho';exact⟨_,es',ep',hL,r'⟩) hok hg
theorem Inv.turned{t':Nat}{it:Addr}(I:Inv X J5 σ H s)(k:∀b o,b≠it->s.heap.get? b=some o->h'.get? b=some o)(hn:H it=none)(hL:it≠X.env.locals)
  (h1:it∈X.ex∨X.s₀.heap.objs.size<=it) (h2:∀x c,X.env.cells.lookup x=some c->c≠it) (h3:∀p∈X.pn++J5,p.1≠it):Inv X J5 σ H { s with heap:=h',toks:=t' }:=by
 have nit:∀b u,H b=some u->b≠it:=fun b u e z=>by rw[z,hn]at e;cases e
 refine I.step (g':=s.gens) (d':=s.drawn) (ch:=[it]) (fun b hb=>?_) (fun b o _ _ hc e _=>k b o (fun z=>hc (by simp[z])) e) (fun b o _ _ hc e _=>⟨o.slots,k b o (fun z=>hc (by simp[z])) e⟩) (fun _ _ _ _ n=>n)
  (fun b o hc e=>⟨o,k b o (fun z=>hc (by simp[z])) e⟩) (fun _ _ e=>e) (fun _ _ _ e=>e) (fun b ps e=>⟨#[],by rw[e];simp⟩) (fun m hm=>?_) (fun b u e=>?_) I.bare
 ·have e:b=it:=by simpa using hb
  subst e;exact⟨h1,hL,h2,h3⟩
 ·obtain⟨o,es,ep,ho,r⟩:=hm;exact⟨o,es,ep,k _ o (ix hL) ho,r⟩
 ·refine(I.hok b u e).stay (fun c v hc q=>k c v ?_ q) (fun _ q=>q) fun _ _ q=>q;rcases hc with z|z
  ·rw[z];exact nit b u e
  ·exact nit c _ z
theorem Inv.tok(I:Inv X J5 σ H s)(t:Nat):Inv X J5 σ H { s with toks:=t }:=I.un (h':=s.heap) (t':=t) Un.refl I.hok
theorem Inv.kept{t':Nat}(I:Inv X J5 σ H s)(k:∀b u,s.heap.get? b=some u->h'.get? b=some u):Inv X J5 σ H { s with heap:=h',toks:=t' }:=I.un (Un.kept k) (I.hok.kept k)
theorem Inv.laid{a:Addr}{o:HO}{t':Nat}(I:Inv X J5 σ H s)(k:∀b u,s.heap.get? b=some u->h'.get? b=some u)(hp:s.heap.objs.size<=a)(new:cB X.prog X.w X.K (upd H a o) h' a o):
  Inv X J5 σ (upd H a o) { s with heap:=h',toks:=t' }:=I.un (Un.laid k hp (I.hok.fresh hp)) (I.hok.laid k hp new)
theorem Inv.write{x e:Addr}{o:HO}{t':Nat}(I:Inv X J5 σ H s)(mu:Jw (H x))(he:e=x∨H e=some (.own x))(k:∀b u,b≠e->s.heap.get? b=some u->h'.get? b=some u)(heo:∃u,h'.get? e=some u)
  (new:cB X.prog X.w X.K (upd H x o) h' x o):Inv X J5 σ (upd H x o) { s with heap:=h',toks:=t' }:=I.un (Un.write mu he k heo) (I.hok.write mu he k heo new)
theorem Inv.weak{σ':List (Option V)}(I:Inv X J5 σ H s)(hl:σ'.length=σ.length)(w:∀(i:Nat) v,σ'[i]?=some (some v)->σ[i]?=some (some v)):Inv X J5 σ' H s :=
 ⟨I.ok,I.os,I.bare,I.base,let⟨m,hn,hl'⟩:=I.loc;⟨m,hn,fun i x v e1 e2 e3=>hl' i x v e1 (w i v e2) e3⟩,I.cell,I.free,I.freeC,I.pin,I.hok,hl.trans I.len⟩
theorem Inv.pins_of{pins':Zd}(I:Inv X J5 σ H s)(h:∀p∈pins',s.heap.get? p.1=some p.2/\H p.1=none/\p.1≠X.env.locals/\p.1∉X.fs/\∀v,p.2.data≠.cell v):Inv X pins' σ H s :=
 ⟨I.ok,I.os,I.bare,I.base,I.loc,I.cell,I.free,I.freeC,fun p hp=>(br.mp hp).elim (fun z=>I.pin p (cL _ z)) (h p),I.hok,I.len⟩
theorem zr{N:Zb}(hN:N.Nodup){i j:Nat}{x:Str}(a:N[i]?=some x)(b:N[j]?=some x):i=j:=by
 obtain⟨h1,e1⟩:=bY.mp a;obtain⟨h2,e2⟩:=bY.mp b;exact(List.getElem_inj hN).mp (e1.trans e2.symm)
theorem vx{M:Model}{A:Around}{E:Zc}{i:Nat}{x:Str}{v:V}{u:Value}{Q:Unit->Shared->Prop}(I:Inv X J5 σ H s)(hN:X.N.Nodup)(hi:X.N[i]?=some x)(hx:Loc X.env.scope x)(r:RelV v u)
  (h:∀s',Inv X J5 (σ.set i (some v)) H s'->(∃a,i3 a s.heap s'.heap/\(a=X.env.locals∨X.env.cells.lookup x=some a))->Q () s') (hf:X.fn x=true∨X.env.scope.names.lookup x=some .local:=by first|exact .inl rfl|exact .inr rfl|assumption):wpAny M A (storeName X.env x u) Q E s:=by
 obtain⟨m,hn,hl⟩:=id I.loc;have hcls:(X.env.scope.kind==.class || (X.env.scope.kind==.module && X.env.locals != X.env.globals))=false:=by rw[I.ok.kind];rfl
 have hiσ:i<σ.length:=by rw[I.len];exact(bY.mp hi).1
 have cne:=I.cne;have tracked:∀{a:Addr}{h':Heap},(∃o,s.heap.get? a=some o/\H a=none)->i3 a s.heap h'->lT X.prog X.w X.K H h':=fun{a h'} ha hs b ob e=>by
  obtain⟨_,_,hfree⟩:=ha;refine(I.hok b ob e).stay (fun c w' hc q=>(hs.2 c ?_).trans q) (fun _ q=>q) fun _ _ q=>q;rintro rfl;rcases hc with rfl|hc
  ·rw[hfree]at e;cases e
  ·rw[hfree]at hc;cases hc
 rcases hx with hk|hk
 ·refine wpAny_storeName_local hk hn (fun h' hn' hs=>?_) hcls;obtain⟨oL,_,_,hoL,_⟩:=id hn;refine h _ ⟨I.ok,I.os,I.bare,⟨fun b o e n hb hx=>?_,fun b o e n hb hx=>?_,I.base.free,fun b o e hx=>?_,I.base.tups,I.base.frzs,I.base.tbls⟩,⟨_,hn',fun j y v' e1 e2 e3=>?_⟩,fun y c e=>?_,I.free,I.freeC,fun p hp=>?_,tracked ⟨oL,hoL,I.free⟩ hs,by simpa using I.len⟩ ⟨_,hs,.inl rfl⟩
  ·exact(hs.2 b (db (gL (aU e) I.ok.above))).trans (I.base.keep b o e n hb hx)
  ·obtain⟨sl,e1⟩:=I.base.slot b o e n hb hx;exact⟨sl,(hs.2 b (db (gL (aU e) I.ok.above))).trans e1⟩
  ·obtain⟨o',e1⟩:=I.base.there b o e hx;exact⟨o',(hs.2 b (db (gL (aU e) I.ok.above))).trans e1⟩
  ·by_cases hj:j=i
   ·subst hj;rw[hi]at e1;cases e1;rw[List.getElem?_set_self hiσ]at e2;cases e2;exact⟨u,r,.inl ⟨hk,by simp⟩⟩
   ·rw[List.getElem?_set_ne (ix hj)]at e2;obtain⟨u',r',q⟩:=hl j y v' e1 e2 e3;refine⟨u',r',?_⟩;rcases q with⟨k,e⟩|⟨k,c,e,z⟩
    ·refine .inl ⟨k,?_⟩;have:y≠x:=fun e=>hj (zr hN e1 (e▸hi));simp[this,e]
    ·exact .inr ⟨k,c,e,z.sameBut hs (cne y c e)⟩
  ·obtain⟨w',z⟩:=I.cell y c e;exact⟨w',z.sameBut hs (cne y c e)⟩
  ·obtain⟨e,n,ne,nf,d⟩:=I.pin p hp;exact⟨(hs.2 p.1 ne).trans e,n,ne,nf,d⟩
 ·have hfn:X.fn x=true:=by
   rcases hf with z|z
   ·exact z
   ·rw[z]at hk;cases hk
  obtain⟨c,hc⟩:=I.ok.has x (.inl hk);obtain⟨w',z⟩:=I.cell x c hc;refine wpAny_storeName_cell I.ok.kind hk hc z (fun h' hc' hs=>?_);obtain⟨oc,hoc,hocd⟩:=id z;refine h { s with heap:=h' } ⟨I.ok,I.os,I.bare,⟨fun b o e n hb hx=>?_,fun b o e n hb hx=>?_,I.base.free,fun b o e hx=>?_,I.base.tups,I.base.frzs,I.base.tbls⟩,⟨m,hn.sameBut hs (ix (cne x c hc)),fun j y v' e1 e2 e3=>?_⟩,fun y c' e=>?_,I.free,I.freeC,fun p hp=>?_,tracked ⟨oc,hoc,I.freeC x c hc⟩ hs,by simpa using I.len⟩ ⟨c,hs,.inr hc⟩
  ·exact(hs.2 b (db (gL (aU e) (I.ok.cab x c hfn hc)))).trans (I.base.keep b o e n hb hx)
  ·obtain⟨sl,e1⟩:=I.base.slot b o e n hb hx;exact⟨sl,(hs.2 b (db (gL (aU e) (I.ok.cab x c hfn hc)))).trans e1⟩
  ·obtain⟨o',e1⟩:=I.base.there b o e hx;exact⟨o',(hs.2 b (db (gL (aU e) (I.ok.cab x c hfn hc)))).trans e1⟩
  ·by_cases hj:j=i
   ·subst hj;rw[hi]at e1;cases e1;rw[List.getElem?_set_self hiσ]at e2;cases e2;exact⟨u,r,.inr ⟨.inl hk,c,hc,hc'⟩⟩
   ·rw[List.getElem?_set_ne (ix hj)]at e2;obtain⟨u',r',q⟩:=hl j y v' e1 e2 e3;refine⟨u',r',?_⟩;rcases q with q|⟨k,c',e,z'⟩
    ·exact .inl q
    ·refine .inr ⟨k,c',e,z'.sameBut hs ?_⟩;rintro rfl;exact hj (zr hN e1 (I.ok.inj _ _ _ e hc▸hi))
  ·by_cases hcc:c'=c
   ·subst hcc;exact⟨_,hc'⟩
   ·obtain⟨w2,z2⟩:=I.cell y c' e;exact⟨w2,z2.sameBut hs hcc⟩
  ·obtain⟨e,n,ne,nf,d⟩:=I.pin p hp;refine⟨(hs.2 p.1 ?_).trans e,n,ne,nf,d⟩;intro q;rw[q,hoc]at e;have q':oc=p.2:=ff e;exact d w' (by rw[<-q'];exact hocd)
theorem tH{M:Model}{A:Around}{E:Zc}{i:Nat}{x:Str}{v:V}{u:Value}{Q:Unit->Shared->Prop}(I:Inv X J5 σ H s)(hN:X.N.Nodup)(hi:X.N[i]?=some x)(hx:Loc X.env.scope x)(r:RelV v u)
  (h:∀s',Inv X J5 (σ.set i (some v)) H s'->Q () s') (hf:X.fn x=true∨X.env.scope.names.lookup x=some .local:=by first|exact .inl rfl|exact .inr rfl|assumption):wpAny M A (storeName X.env x u) Q E s :=
 vx I hN hi hx r (fun s' I' _=>h s' I') hf
theorem Inv.call'{s':Shared}{ch:Ze}(I:Inv X J5 σ H s)(ho:s'.os=s.os)(u:Un (Eb X.stack) ch H H' s.heap s'.heap)(hok:lT X.prog X.w X.K H' s'.heap)(hg:nR s'.gens)
  (hch:∀b∈ch,(b∈X.ex∨X.s₀.heap.objs.size<=b)/\b≠X.env.locals/\(∀x c,X.env.cells.lookup x=some c->c≠b)/\∀p∈X.pn++J5,p.1≠b):Inv X J5 σ H' s':=by
 obtain⟨h',g',d',t',o'⟩:=s';have e:o'=s.os:=ho;subst e;exact I.call (g':=g') (t':=t') (d':=d') u hok hg hch
end
abbrev XK:=Value->Option Addr->Hp->Prop
abbrev St:=List (Option V)
abbrev VK:=V->Hp->Prop
abbrev TE:=St->Hp->VK->Prop
abbrev TT:=St->Hp->(Bool->Hp->Prop)->Prop
abbrev TA:=St->Hp->(List V->Hp->Prop)->Prop
structure rY where
 nx:St->Hp->Prop
 rt:VK
 bk:St->Hp->Prop:=fun _ _=>False
 ct:St->Hp->Prop:=fun _ _=>False
abbrev be(Q:VK):rY:={ nx:=fun _ H=>Q .non H,rt:=Q }
abbrev TS:=rY->St->Hp->Prop
def EP(X:Cx)(J5:Zd)(σ:St)(Q:VK)(u:Value)(s':Shared):Prop:=∃v H',Inv X J5 σ H' s'/\RelV v u/\Q v H'
def TP(X:Cx)(J5:Zd)(σ:St)(Q:Bool->Hp->Prop)(b:Bool)(s':Shared):Prop:=∃H',Inv X J5 σ H' s'/\Q b H'
def AP(X:Cx)(J5:Zd)(σ:St)(Q:List V->Hp->Prop)(us:Zf)(s':Shared):Prop:=∃vs H',Inv X J5 σ H' s'/\aR vs us/\Q vs H'
def SP(X:Cx)(J5:Zd)(D:rY)(f:Flow)(s':Shared):Prop :=
 match f with
 |.next=>∃σ' H',Inv X J5 σ' H' s'/\D.nx σ' H'
 |.brk=>∃σ' H',Inv X J5 σ' H' s'/\D.bk σ' H'
 |.cont=>∃σ' H',Inv X J5 σ' H' s'/\D.ct σ' H'
 |.ret u=>∃v σ' H',Inv X J5 σ' H' s'/\RelV v u/\D.rt v H'
def PE(X:Cx)(e:Expr)(t:TE):Prop :=
 ∀(J5:Zd) (s:Shared) (σ:St) (H:Hp) (Q:VK),Inv X J5 σ H s->t σ H Q->wpAny (model X.prog X.w) X.A (eval e X.env) (EP X J5 σ Q) X.xe s
def PT(X:Cx)(e:Expr)(t:TT):Prop :=
 ∀(J5:Zd) (s:Shared) (σ:St) (H:Hp) (Q:Bool->Hp->Prop),Inv X J5 σ H s->t σ H Q->wpAny (model X.prog X.w) X.A (isTrue e X.env (eval e X.env)) (TP X J5 σ Q) X.xe s
def PW(X:Cx)(e:Expr)(t:TT):Prop :=
 ∀(whole:Sem Value) (J5:Zd) (s:Shared) (σ:St) (H:Hp) (Q:Bool->Hp->Prop),Inv X J5 σ H s->t σ H Q->wpAny (model X.prog X.w) X.A (isTrue e X.env whole) (TP X J5 σ Q) X.xe s
theorem PW.pt{X:Cx}{e:Expr}{t:TT}(h:PW X e t):PT X e t:=h _
def PA(X:Cx)(es:List Expr)(t:TA):Prop :=
 ∀(pos:Pos) (J5:Zd) (s:Shared) (σ:St) (H:Hp) (Q:List V->Hp->Prop),Inv X J5 σ H s->t σ H Q->wpAny (model X.prog X.w) X.A (spliced (backTo pos (aF es X.env))) (AP X J5 σ Q) X.xe s
def PS(X:Cx)(st:Stmt)(t:TS):Prop :=
 ∀(J5:Zd) (s:Shared) (σ:St) (H:Hp) (D:rY),Inv X J5 σ H s->t D σ H->wpAny (model X.prog X.w) X.A (exec st X.env) (SP X J5 D) X.xe s
def Ae(X:Cx)(st:List Stmt)(t:TS):Prop :=
 ∀(J5:Zd) (s:Shared) (σ:St) (H:Hp) (D:rY),Inv X J5 σ H s->t D σ H->wpAny (model X.prog X.w) X.A (execs st X.env) (SP X J5 D) X.xe s
theorem cz{α:Type}{t:Sem α}{Q Q':α->Shared->Prop}{M:Model}{A:Around}{E:Zc}{s:Shared}(h:wpAny M A t Q E s)(hQ:∀a s,Q a s->Q' a s):wpAny M A t Q' E s:=nT h hQ fun _ _ x=>x
end L2
namespace L2
open PySem PySem.Spec PyProof.Rows
section
variable{X:Cx}
def mU(i:Nat):TE:=fun σ H Q=>∃v,σ[i]?=some (some v)/\Q v H
abbrev V0:TE:=mU 0
abbrev V1:TE:=mU 1
abbrev V2:TE:=mU 2
abbrev V3:TE:=mU 3
abbrev V4:TE:=mU 4
abbrev V5:TE:=mU 5
abbrev V6:TE:=mU 6
abbrev V7:TE:=mU 7
abbrev V8:TE:=mU 8
abbrev V9:TE:=mU 9
abbrev IN:TE:=mU 10
abbrev FX:TE:=mU 11
abbrev V12:TE:=mU 12
def tC(v:V):TE:=fun _ H Q=>Q v H
theorem Ix{i:Nat}{x:Str}{pos:Pos}(hN:X.N[i]?=some x)(hv:JJ X.env.scope x)(hd:(x==("__debug__":Str))=false:=by decide)(hcd:(x==("__classdict__":Str))=false:=by decide):PE X (.Name x pos) (mU i):=by
 intro J5 s σ H Q I h;obtain⟨v,e,h⟩:=h;obtain⟨m,hn,hl⟩:=I.loc;obtain⟨u,r,l⟩:=hl i x v hN e hv;have fin:EP X J5 σ Q u s:=⟨v,H,I,r,h⟩;rcases l with⟨hk,hm⟩|⟨hk,c,hc,hcell⟩
 ·exact wpAny_Name (wpAny_loadName_local I.ok.kind hk hn hm fin) hd
 ·rcases hk with hk|hk
  ·exact wpAny_Name (wpAny_loadName_cell I.ok.kind hk hc hcell fin) hd
  ·exact wpAny_Name (wpAny_loadName_free I.ok.kind hk hc hcell fin hcd) hd
theorem ag{i j pos}:PE X (.Constant (.int i) j pos) (tC (.int i)):=fun _ _ _ H _ I h=>wpAny_Constant_int ⟨.int i,H,I.tok _,⟨_,rfl⟩,h⟩
theorem mz{b j pos}:PE X (.Constant (.bool b) j pos) (tC (.bl b)):=fun _ _ _ H _ I h=>Constant_bool ⟨.bl b,H,I,rfl,h⟩
theorem jf{j pos}:PE X (.Constant .none j pos) (tC .non):=fun _ _ _ H _ I h=>Constant_none ⟨.non,H,I,rfl,h⟩
theorem bJ{x j pos}:PE X (.Constant (.str x) j pos) (tC (.str x)):=fun _ _ _ H _ I h=>Calls.Constant_str ⟨.str x,H,I.tok _,⟨_,rfl⟩,h⟩
def Gl(X:Cx)(x:Str):Prop:=X.env.kindOf x=some .globalImplicit
theorem xH{E:Zc}{J5:Zd}{s:Shared}{σ:St}{H:Hp}{x:Str}{u:Value}{pos:Pos}{Q:Zc}(I:Inv X J5 σ H s)(hg:Gl X x)(hm:X.mg x=some u)(h:Q u s)
  (hd:(x==("__debug__":Str))=false:=by decide):wpAny (model X.prog X.w) X.A (eval (.Name x pos) X.env) Q E s :=
 Calls.Name_function_global I.ok.kind hg (Calls.loadGlobal_global (by rw[I.ok.glob];exact I.mod.glob.keeps I.bk) hm h) hd
theorem qd{E:Zc}{J5:Zd}{s:Shared}{σ:St}{H:Hp}{x:Str}{u:Value}{pos:Pos}{Q:Zc}(I:Inv X J5 σ H s)(hg:Gl X x)(hm:X.mg x=none)(hv:mr x=some u)(h:Q u s)
  (hn:x≠"__name__":=by decide) (hd:(x==("__debug__":Str))=false:=by decide):wpAny (model X.prog X.w) X.A (eval (.Name x pos) X.env) Q E s:=by
 obtain⟨mb,h1,h2⟩:=I.mod.blt;exact Calls.Name_function_global I.ok.kind hg (Calls.loadGlobal_builtin (by rw[I.ok.glob];exact I.mod.glob.keeps I.bk) hm (by rw[I.ok.blt];exact h1.keeps I.bk) ((h2 x hn).trans hv) h) hd
theorem GY{x:Str}{v:V}{u:Value}{pos:Pos}(hg:Gl X x)(hm:X.mg x=some u)(r:RelV v u)(hd:(x==("__debug__":Str))=false:=by decide):PE X (.Name x pos) (tC v) :=
 fun _ _ _ H _ I h=>xH I hg hm ⟨v,H,I,r,h⟩ hd
variable{a b:Expr}{ta tb:TE}{pos:Pos}
def PC(X:Cx)(op:CmpOp)(a b:Expr)(t:TE):Prop :=
 ∀(J5:Zd) (s:Shared) (σ:St) (H:Hp) (Q:VK),Inv X J5 σ H s->t σ H Q ->
  wpAny (model X.prog X.w) X.A (eval a X.env) (fun v s₁=>wpAny (model X.prog X.w) X.A (eval b X.env) (fun u s₂=>wpAny (model X.prog X.w) X.A (ee op v u) (EP X J5 σ Q) X.xe s₂) X.xe s₁) X.xe s
theorem zt(b:Expr){op:CmpOp}(h:op≠.In)(h2:op≠.NotIn):ke op b=false:=by
 have e1:(op==CmpOp.In)=false:=by cases op<;>first|rfl|exact absurd rfl h
 have e2:(op==CmpOp.NotIn)=false:=by cases op<;>first|rfl|exact absurd rfl h2
 cases b<;>simp[ke,e1,e2]
def yS(ta:TE):TE:=fun σ H Q=>ta σ H fun x H1=>Q (.bl (decide (x=.non))) H1
def BL(ta:TE):TE:=fun σ H Q=>ta σ H fun x H1=>Q (.bl (!decide (x=.non))) H1
theorem RelV.none_iff{x:V}{v:Value}(r:RelV x v):(v==Value.none)=decide (x=.non):=by
 cases x with
 |non=>cases r;rfl
 |bl _=>cases r;rfl
 |int _=>obtain⟨t,rfl⟩:=r;rfl
 |str _=>obtain⟨t,rfl⟩:=r;rfl
 |byt _=>obtain⟨t,rfl⟩:=r;rfl
 |flt _=>obtain⟨t,rfl⟩:=r;rfl
 |ref _=>cases r;rfl
 |ty _=>cases r;rfl
theorem nh{j pos'}(ha:PE X a ta):PC X .Is a (.Constant .none j pos') (yS ta):=by
 intro J5 s σ H Q I h;refine cz (ha J5 s σ H _ I h) fun v s1 ⟨x,H1,I1,r1,q1⟩=>?_;exact Constant_none (is_none_gen ⟨.bl _,H1,I1,by rw[r1.none_iff];rfl,q1⟩)
theorem BX{j pos'}(ha:PE X a ta):PC X .IsNot a (.Constant .none j pos') (BL ta):=by
 intro J5 s σ H Q I h;refine cz (ha J5 s σ H _ I h) fun v s1 ⟨x,H1,I1,r1,q1⟩=>?_;exact Constant_none (isnot_none_gen ⟨.bl _,H1,I1,by rw[r1.none_iff];rfl,q1⟩)
def tB(t:TE):TT:=fun σ H Q=>t σ H fun x H1=>∃c,x=.bl c/\Q c H1
theorem Iz{op:CmpOp}{t:TE}(h:PC X op a b t)(h1:ke op b=false:=by first|exact zt _ (by decide) (by decide)|rfl):PE X (.Compare a [op] [b] pos) t:=fun J5 s σ H Q I hw=>wpAny_Compare1 (h J5 s σ H Q I hw) h1
theorem cX{op:CmpOp}{t:TE}(h:PC X op a b t)(h1:ke op b=false:=by first|exact zt _ (by decide) (by decide)|rfl):PT X (.Compare a [op] [b] pos) (tB t):=by
 intro J5 s σ H Q I hw;refine wpAny_isTrue_Compare1 (cz (h J5 s σ H _ I hw) fun v s1 h1=>cz h1 fun u s2 h2=>cz h2 fun c s3 ⟨x,H1,I1,r1,q1⟩=>?_) h1;obtain⟨d,rfl,q⟩:=q1;cases r1;exact sH ⟨H1,I1,q⟩
theorem kU{e:Expr}{t:TE}(h:PE X e t)(he:∀whole,isTrue e X.env whole=(do let v <- whole;qK e.pos;kz [v] (truthy v)):=by intro _;rfl):PT X e (tB t):=by
 intro J5 s σ H Q I hw;refine isTrue_plain (cz (h J5 s σ H _ I hw) fun v s1 ⟨x,H1,I1,r1,q1⟩=>?_) (he _);obtain⟨d,rfl,q⟩:=q1;cases r1;exact sH ⟨H1,I1,q⟩
variable{tA tB':TT}{rest:List Expr}
def yX(t u:TT):TT:=fun σ H Q=>t σ H fun c H1=>if c=true then u σ H1 Q else Q false H1
def Ea(t u:TT):TT:=fun σ H Q=>t σ H fun c H1=>if c=true then Q true H1 else u σ H1 Q
def Ih(t:TT):TT:=fun σ H Q=>t σ H fun c H1=>Q (!c) H1
theorem oO(ha:PT X a tA):PW X (.BoolOp .And [a] pos) tA:=by
 intro wh J5 s σ H Q I h;refine isTrue_and (cz (ha J5 s σ H Q I h) fun c s1 e=>?_);cases c with
 |true=>exact isTrue_and_nil e
 |false=>exact e
theorem jR(ha:PT X a tA):PW X (.BoolOp .Or [a] pos) tA:=by
 intro wh J5 s σ H Q I h;refine isTrue_or (cz (ha J5 s σ H Q I h) fun c s1 e=>?_);cases c with
 |false=>exact isTrue_or_nil e
 |true=>exact e
theorem p7(ha:PT X a tA)(hb:PW X (.BoolOp .And (b::rest) pos) tB'):PW X (.BoolOp .And (a::b::rest) pos) (yX tA tB'):=by
 intro wh J5 s σ H Q I h;refine isTrue_and (cz (ha J5 s σ H _ I h) fun c s1 ⟨H1,I1,q1⟩=>?_);cases c with
 |true=>exact hb wh J5 s1 σ H1 Q I1 q1
 |false=>exact⟨H1,I1,q1⟩
theorem kT(ha:PT X a tA)(hb:PW X (.BoolOp .Or (b::rest) pos) tB'):PW X (.BoolOp .Or (a::b::rest) pos) (Ea tA tB'):=by
 intro wh J5 s σ H Q I h;refine isTrue_or (cz (ha J5 s σ H _ I h) fun c s1 ⟨H1,I1,q1⟩=>?_);cases c with
 |true=>exact⟨H1,I1,q1⟩
 |false=>exact hb wh J5 s1 σ H1 Q I1 q1
theorem ET(ha:PT X a tA):PT X (.UnaryOp .Not a pos) (Ih tA):=by
 intro J5 s σ H Q I h;exact isTrue_not (ha J5 s σ H (fun c H1=>Q (!c) H1) I h)
def vw(ta tb:TE):TE:=fun σ H Q=>ta σ H fun x H1=>∃c,x=.bl c/\if c=true then tb σ H1 Q else Q (.bl false) H1
def Jb(ta tb:TE):TE:=fun σ H Q=>ta σ H fun x H1=>∃c,x=.bl c/\if c=true then Q (.bl true) H1 else tb σ H1 Q
theorem tU{op}{t:TE}(h:PE X a t):PE X (.BoolOp op [a] pos) t:=fun J5 s σ H Q I hw=>BoolOp_one (h J5 s σ H Q I hw)
theorem tW(ha:PE X a ta)(hb:PE X (.BoolOp .And (b::rest) pos) tb):PE X (.BoolOp .And (a::b::rest) pos) (vw ta tb):=by
 intro J5 s σ H Q I h;refine BoolOp_and (cz (ha J5 s σ H _ I h) fun v s1 ⟨x,H1,I1,r1,q1⟩=>?_);obtain⟨c,rfl,q1⟩:=q1;cases r1;refine sH ?_;cases c with
 |true=>exact hb J5 s1 σ H1 Q I1 q1
 |false=>exact⟨.bl false,H1,I1,rfl,q1⟩
theorem Jh(ha:PE X a ta)(hb:PE X (.BoolOp .Or (b::rest) pos) tb):PE X (.BoolOp .Or (a::b::rest) pos) (Jb ta tb):=by
 intro J5 s σ H Q I h;refine BoolOp_or (cz (ha J5 s σ H _ I h) fun v s1 ⟨x,H1,I1,r1,q1⟩=>?_);obtain⟨c,rfl,q1⟩:=q1;cases r1;refine sH ?_;cases c with
 |false=>exact hb J5 s1 σ H1 Q I1 q1
 |true=>exact⟨.bl true,H1,I1,rfl,q1⟩
def tIf(t:TT)(ta tb:TE):TE:=fun σ H Q=>t σ H fun c H1=>if c=true then ta σ H1 Q else tb σ H1 Q
theorem zm{c:Expr}(hc:PT X c tA)(ha:PE X a ta)(hb:PE X b tb):PE X (.IfExp c a b pos) (tIf tA ta tb):=by
 intro J5 s σ H Q I h;refine wpAny_IfExp (cz (hc J5 s σ H _ I h) fun d s1 ⟨H1,I1,q1⟩=>?_);cases d with
 |true=>exact ha J5 s1 σ H1 Q I1 q1
 |false=>exact hb J5 s1 σ H1 Q I1 q1
end
end L2
namespace L2
open PySem PySem.Spec PyProof.Rows
def az(K:Za)(H:Hp)(a:Addr)(xs:List V):Prop :=
 Rd H a (.lst xs) ∨
  ∃(o:Obj) (its:Array Value) (n:Nat),K.lookup a=some o/\o.cls=.type "list"/\o.dict=none/\o.data=.seq its n/\its.size<=aj/\aR xs its.toList
def bE(K:Za)(H:Hp)(a:Addr)(xs:List V):Prop :=
 Rd H a (.tup xs) ∨
  ∃(o:Obj) (its:Array Value) (n:Nat),K.lookup a=some o/\o.cls=.type "tuple"/\o.data=.seq its n/\its.size<=aj/\aR xs its.toList
def absV:Value->Option V
 |.none=>some .non
 |.bool b=>some (.bl b)
 |.int i _=>some (.int i)
 |.str x _=>some (.str x)
 |.bytes b _=>some (.byt b)
 |.float b _=>some (.flt b)
 |.ref a=>some (.ref a)
 |.type n=>some (.ty n)
 |_=>none
theorem RelV.abs{x:V}{u:Value}(r:RelV x u):absV u=some x:=by
 cases x with
 |non=>cases r;rfl
 |bl _=>cases r;rfl
 |int _=>obtain⟨t,rfl⟩:=r;rfl
 |str _=>obtain⟨t,rfl⟩:=r;rfl
 |byt _=>obtain⟨t,rfl⟩:=r;rfl
 |flt _=>obtain⟨t,rfl⟩:=r;rfl
 |ref _=>cases r;rfl
 |ty _=>cases r;rfl
theorem RelV.inj{x y:V}{u:Value}(r:RelV x u)(q:RelV y u):x=y:=ff (r.abs.symm.trans q.abs)
theorem aR.inj:∀{xs ys:List V}{us:Zf},aR xs us->aR ys us->xs=ys
 |_,_,_,.nil,.nil=>rfl
 |_,_,_,.cons r t,.cons r' t'=>by rw[r.inj r',aR.inj t t']
section
variable{X:Cx}{J5:Zd}{σ:St}{H:Hp}{s:Shared}{a:Addr}{xs ys:List V}
theorem az.of{K:Za}(h:H a=some (.lst xs)):az K H a xs:=.inl (.inl h)
theorem bE.of{K:Za}(h:H a=some (.tup xs)):bE K H a xs:=.inl (.inl h)
theorem Inv.list(I:Inv X J5 σ H s)(h:az X.K H a xs):∃its:List Value,aR xs its/\PlainL s.heap a its.toArray/\xs.length<=aj:=by
 rcases h with h|⟨o,its,n,hk,hc,hd,hs,hz,r⟩
 ·obtain⟨z,its,n,r,e⟩:=h.ok I.hok;exact⟨its,r,⟨_,n,e,rfl,rfl,rfl⟩,z⟩
 ·refine⟨its.toList,r,⟨o,n,I.kIn a o hk,hc,hd,by simpa using hs⟩,?_⟩;have e:=r.length;simp only[mq]at e;omega
theorem Inv.tuple(I:Inv X J5 σ H s)(h:bE X.K H a xs):∃its:List Value,aR xs its/\IsTup s.heap a its.toArray/\xs.length<=aj:=by
 rcases h with h|⟨o,its,n,hk,hc,hs,hz,r⟩
 ·obtain⟨z,its,r,p⟩:=h.ok I.hok;exact⟨its,r,p,z⟩
 ·refine⟨its.toList,r,⟨o,I.kIn a o hk,hc,n,by simpa using hs⟩,?_⟩;have e:=r.length;simp only[mq]at e;omega
theorem Inv.list_inj(I:Inv X J5 σ H s)(h:az X.K H a xs)(h':az X.K H a ys):xs=ys:=by
 obtain⟨its,r,⟨o,n,e,_,_,d⟩,_⟩:=I.list h;obtain⟨its',r',⟨o',n',e',_,_,d'⟩,_⟩:=I.list h';rw[e]at e';cases e';rw[d]at d';injection d' with d1 _;have:its=its':=by simpa using congrArg Array.toList d1
 subst this;exact r.inj r'
theorem Inv.tuple_inj(I:Inv X J5 σ H s)(h:bE X.K H a xs)(h':bE X.K H a ys):xs=ys:=by
 obtain⟨its,r,⟨o,e,_,n,d⟩,_⟩:=I.tuple h;obtain⟨its',r',⟨o',e',_,n',d'⟩,_⟩:=I.tuple h';rw[e]at e';cases e';rw[d]at d';injection d' with d1 _;have:its=its':=by simpa using congrArg Array.toList d1
 subst this;exact r.inj r'
end
abbrev Cx.wish(X:Cx)(E:Zc):Cx:={ X with xe:=E }
abbrev Cx.nox(X:Cx):Cx:=X.wish fun _ _=>False
theorem Cx.Ok.wish{X:Cx}(ok:X.Ok)(E:Zc):(X.wish E).Ok :=
 ⟨ok.mod,ok.kind,ok.glob,ok.blt,ok.above,ok.inj,ok.has,ok.cab,ok.hd,ok.frames,ok.stk,ok.exf,ok.bs,ok.bsz,ok.noex,ok.exfs,ok.funs,ok.frf⟩
theorem Cx.Ok.unwish{X:Cx}{E:Zc}(ok:(X.wish E).Ok):X.Ok :=
 ⟨ok.mod,ok.kind,ok.glob,ok.blt,ok.above,ok.inj,ok.has,ok.cab,ok.hd,ok.frames,ok.stk,ok.exf,ok.bs,ok.bsz,ok.noex,ok.exfs,ok.funs,ok.frf⟩
section
variable{X:Cx}{J5:Zd}{σ:St}{H:Hp}{s:Shared}{E:Zc}
theorem Inv.wish(I:Inv X J5 σ H s)(E:Zc):Inv (X.wish E) J5 σ H s:=⟨I.ok.wish E,I.os,I.bare,I.base,I.loc,I.cell,I.free,I.freeC,I.pin,I.hok,I.len⟩
theorem Inv.unwish(I:Inv (X.wish E) J5 σ H s):Inv X J5 σ H s:=⟨I.ok.unwish,I.os,I.bare,I.base,I.loc,I.cell,I.free,I.freeC,I.pin,I.hok,I.len⟩
theorem SP.unwish{D:rY}{f:Flow}{s':Shared}(h:SP (X.wish E) J5 D f s'):SP X J5 D f s':=by
 cases f with
 |next=>obtain⟨σ',H',I,q⟩:=h;exact⟨σ',H',I.unwish,q⟩
 |brk=>obtain⟨σ',H',I,q⟩:=h;exact⟨σ',H',I.unwish,q⟩
 |cont=>obtain⟨σ',H',I,q⟩:=h;exact⟨σ',H',I.unwish,q⟩
 |ret u=>obtain⟨v,σ',H',I,r,q⟩:=h;exact⟨v,σ',H',I.unwish,r,q⟩
theorem Ae.nox{st:List Stmt}{t:TS}(h:Ae X.nox st t):Ae X st t:=fun J5 s σ H D I hw =>
 nT (h J5 s σ H D (I.wish _) hw) (fun _ _ q=>q.unwish) fun _ _ z=>jk z
end
section
variable{X:Cx}{st:Stmt}{rest:List Stmt}{t u:TS}{e:Expr}{te:TE}{pos:Pos}
def bC:TS:=fun D σ H=>D.nx σ H
def ap(t u:TS):TS:=fun D σ H=>t { D with nx:=u D } σ H
theorem aH:Ae X [] bC:=fun _ _ σ H _ I h=>BC ⟨σ,H,I,h⟩
theorem ac(h1:PS X st t)(h2:Ae X rest u):Ae X (st::rest) (ap t u):=by
 intro J5 s σ H D I h;refine wpAny_execs_cons (cz (h1 J5 s σ H { D with nx:=u D } I h) fun f s1 q=>?_);cases f with
 |next =>
  obtain⟨σ',H',I',q⟩:=q;exact h2 J5 s1 σ' H' D I' q
 |ret v=>exact q
 |brk=>exact q
 |cont=>exact q
theorem af(h1:PS X st t):Ae X [st] t:=by
 intro J5 s σ H D I h;refine wpAny_execs_cons (cz (h1 J5 s σ H D I h) fun f s1 q=>?_);cases f with
 |next=>exact BC q
 |ret v=>exact q
 |brk=>exact q
 |cont=>exact q
theorem Inv.quiet{J5:Zd}{σ:St}{H:Hp}{s:Shared}(I:Inv X J5 σ H s):interactive X.env=false:=by simp[interactive,I.ok.kind]
def cT(te:TE):TS:=fun D σ H=>te σ H fun _ H1=>D.nx σ H1
theorem bt(he:PE X e te)(hs:qJ e none pos.line X.env=pure false:=by rfl):PS X (.Expr e pos) (cT te):=by
 intro J5 s σ H D I h;exact wpAny_Expr_any (cz (he J5 s σ H _ I h) fun v s1 ⟨x,H1,I1,r1,q1⟩=>⟨σ,H1,I1,q1⟩) I.quiet hs
def aO(te:TE):TS:=fun D σ H=>te σ H D.rt
theorem aq(he:PE X e te):PS X (.Return (some e) pos) (aO te):=by
 intro J5 s σ H D I h;exact wpAny_Return_some (cz (he J5 s σ H _ I h) fun v s1 ⟨x,H1,I1,r1,q1⟩=>⟨x,σ,H1,I1,r1,q1⟩)
def cK(c:TT)(t u:TS):TS:=fun D σ H=>c σ H fun b H1=>if b=true then t D σ H1 else u D σ H1
theorem bG{c:Expr}{a b:List Stmt}{tc:TT}(hc:PT X c tc)(ha:Ae X a t)(hb:Ae X b u):PS X (.If c a b pos) (cK tc t u):=by
 intro J5 s σ H D I h;refine wpAny_If (cz (hc J5 s σ H _ I h) fun d s1 ⟨H1,I1,q1⟩=>?_);cases d with
 |true=>exact ha J5 s1 σ H1 D I1 q1
 |false=>exact hb J5 s1 σ H1 D I1 q1
def pS:TS:=fun _ _ _=>False
theorem kW:PS X st pS:=fun _ _ _ _ _ _ h=>h.elim
end
abbrev TG:=V->St->Hp->(St->Hp->Prop)->Prop
abbrev Ed:=List V->St->Hp->(St->Hp->Prop)->Prop
def PG(X:Cx)(target:Expr)(t:TG):Prop :=
 ∀(J5:Zd) (s:Shared) (σ:St) (H:Hp) (v:V) (u:Value) (Q:St->Hp->Prop),Inv X J5 σ H s->RelV v u->t v σ H Q ->
  wpAny (model X.prog X.w) X.A (assign target X.env u) (fun _ s'=>∃σ' H',Inv X J5 σ' H' s'/\Q σ' H') X.xe s
def JL(X:Cx)(ts:List Expr)(t:Ed):Prop :=
 ∀(J5:Zd) (s:Shared) (σ:St) (H:Hp) (vs:List V) (us:Zf) (Q:St->Hp->Prop),Inv X J5 σ H s->aR vs us->t vs σ H Q ->
  wpAny (model X.prog X.w) X.A (assignInOrder ((vk ts X.env).map (·.2)) us) (fun _ s'=>∃σ' H',Inv X J5 σ' H' s'/\Q σ' H') X.xe s
abbrev IP:=V->V->V->Hp->(Hp->Prop)->Prop
def Ju(X:Cx)(t:IP):Prop :=
 ∀(J5:Zd) (s:Shared) (σ:St) (H:Hp) (o i v:V) (ov iv u:Value) (Q:Hp->Prop),Inv X J5 σ H s->RelV o ov->RelV i iv->RelV v u->t o i v H Q ->
  wpAny (model X.prog X.w) X.A (setItem ov iv u) (fun _ s'=>∃H',Inv X J5 σ H' s'/\Q H') X.xe s
abbrev JK:=V->V->Hp->VK->Prop
def PIp(X:Cx)(op:Operator)(t:JK):Prop :=
 ∀(J5:Zd) (s:Shared) (σ:St) (H:Hp) (x y:V) (v u:Value) (Q:VK),Inv X J5 σ H s->RelV x v->RelV y u->t x y H Q ->
  wpAny (model X.prog X.w) X.A (inplaceOp op v u) (EP X J5 σ Q) X.xe s
section
variable{X:Cx}{pos:Pos}
def d6(i:Nat):TG:=fun v σ H Q=>Q (σ.set i (some v)) H
abbrev U0:TG:=d6 0
abbrev U1:TG:=d6 1
abbrev U2:TG:=d6 2
abbrev U3:TG:=d6 3
abbrev U4:TG:=d6 4
abbrev U5:TG:=d6 5
abbrev U6:TG:=d6 6
abbrev U7:TG:=d6 7
abbrev U8:TG:=d6 8
abbrev U9:TG:=d6 9
abbrev U10:TG:=d6 10
abbrev U11:TG:=d6 11
abbrev U12:TG:=d6 12
theorem BU{i:Nat}{x:Str}(hN:X.N.Nodup)(hi:X.N[i]?=some x)(hx:Loc X.env.scope x)(hf:X.fn x=true∨X.env.scope.names.lookup x=some .local:=by first|exact .inl rfl|exact .inr rfl|assumption):PG X (.Name x pos) (d6 i):=by
 intro J5 s σ H v u Q I r h;exact wpAny_assign_Name (tH I hN hi hx r (fun s' I'=>⟨_,H,I',h⟩) hf)
def iO:Ed:=fun vs σ H Q=>vs=[]/\Q σ H
def bm(t:TG)(u:Ed):Ed:=fun vs σ H Q=>∃v r,vs=v::r/\t v σ H fun σ' H'=>u r σ' H' Q
theorem cD:JL X [] iO:=by
 intro J5 s σ H vs us Q I r h;obtain⟨e,h⟩:=h;subst e;cases r;exact assignInOrder_nil ⟨σ,H,I,h⟩
theorem ay{e:Expr}{es:List Expr}{t:TG}{u:Ed}(h1:PG X e t)(h2:JL X es u)
  (hs:(vk (e::es) X.env).map (·.2)=assign e X.env::(vk es X.env).map (·.2):=by rfl):JL X (e::es) (bm t u):=by
 intro J5 s σ H vs us Q I r h;obtain⟨v,vr,e1,h⟩:=h;subst e1;cases r with
 |cons r rr =>
  rw[hs];refine assignInOrder_cons (cz (h1 J5 s σ H _ _ _ I r h) fun _ s1 ⟨σ1,H1,I1,q1⟩=>?_);exact h2 J5 s1 σ1 H1 _ _ Q I1 rr q1
def iX(K:Za)(n:Nat)(t:Ed):TG:=fun v σ H Q=>∃a xs,v=.ref a/\bE K H a xs/\xs.length=n/\t xs σ H Q
theorem dA{es:List Expr}{k:Nat}{t:Ed}{n:Nat}(hc:X.calm=true)(h:JL X es t)
  (hn:(vk es X.env).length=n:=by rfl) (hst:(vk es X.env).findIdx? (·.1)=none:=by rfl):PG X (.Tuple es k pos) (iX X.K n t):=by
 intro J5 s σ H v u Q I r hw;obtain⟨a,xs,e1,hq,hl,hw⟩:=hw;subst e1;cases r;obtain⟨its,rv,ht,hz⟩:=I.tuple hq;refine assign_Tuple_tuple (I.ok.hd hc) ht (by simp[hn,<-hl,rv.length]) hst fun h' hx=>?_;have I1:Inv X J5 σ H { s with heap:=h' }:=I.kept (t':=s.toks) fun b o e=>hx b o (db (aU e)) e;exact h J5 _ σ H xs _ Q I1 (by simpa using rv) hw
def A7(to ti:TE)(t:IP):TG:=fun v σ H Q=>to σ H fun o H1=>ti σ H1 fun i H2=>t o i v H2 fun H3=>Q σ H3
theorem tT{o i:Expr}{to ti:TE}{t:IP}(ho:PE X o to)(hi:PE X i ti)(hs:Ju X t)
  (ha:∀v,assign (.Subscript o i pos) X.env v=(do
   let ov <- kz [v] (eval o X.env)
   let iv <- kz [v,ov] (eval i X.env)
   qK pos
   kz [v,ov,iv] (setItem ov iv v)
   release [v,ov,iv] []):=by intro _;rfl):PG X (.Subscript o i pos) (A7 to ti t):=by
 intro J5 s σ H v u Q I r h;rw[ha];refine ao (qN (cz (ho J5 s σ H _ I h) fun ov s1 ⟨x,H1,I1,r1,q1⟩=>?_));refine ao (qN (cz (hi J5 s1 σ H1 _ I1 q1) fun iv s2 ⟨y,H2,I2,r2,q2⟩=>?_));refine ao (wpAny_standAt (ao (qN (cz (hs J5 s2 σ H2 x y v ov iv u _ I2 r1 r2 r q2) fun _ s3 ⟨H3,I3,q3⟩=>?_))));exact wpAny_release ⟨σ,H3,I3,q3⟩
def aI(te:TE)(g:TG):TS:=fun D σ H=>te σ H fun x H1=>g x σ H1 D.nx
theorem jS{tg e:Expr}{te:TE}{g:TG}(he:PE X e te)(hg:PG X tg g)(hs:swapsWithSole [tg] e pos.line X.env=pure false:=by rfl)(hw:swappedStores [tg] e X.env=pure none:=by rfl)
  (h1:(vk [tg] X.env).map (·.2)=[assign tg X.env]:=by rfl):PS X (.Assign [tg] e pos) (aI te g):=by
 intro J5 s σ H D I h;refine wpAny_Assign_stores (cz (he J5 s σ H _ I h) fun v s1 ⟨x,H1,I1,r1,q1⟩=>?_) hs hw;rw[h1];exact cz (hg J5 s1 σ H1 x v _ I1 r1 q1) fun _ s2 q=>q
theorem Iu{i:Nat}{x:Str}{e:Expr}{te:TE}{pos':Pos}(hN:X.N.Nodup)(hi:X.N[i]?=some x)(hx:Loc X.env.scope x)(he:PE X e te)(hs:qJ e (some (.Name x pos')) pos.line X.env=pure false:=by rfl)(hf:X.fn x=true∨X.env.scope.names.lookup x=some .local:=by first|exact .inl rfl|exact .inr rfl|assumption):
  PS X (.Assign [.Name x pos'] e pos) (aI te (d6 i)):=by
 intro J5 s σ H D I h;refine wpAny_Assign_Name (cz (he J5 s σ H _ I h) fun v s1 ⟨y,H1,I1,r1,q1⟩=>?_) hs;exact tH I1 hN hi hx r1 (fun s2 I2=>⟨_,H1,I2,q1⟩) hf
def Gs(i:Nat)(te:TE)(ti:JK):TS:=fun D σ H=>∃x,σ[i]?=some (some x)/\te σ H fun y H1=>ti x y H1 fun z H2=>D.nx (σ.set i (some z)) H2
theorem AM{i:Nat}{x:Str}{e:Expr}{te:TE}{op:Operator}{ti:JK}{pos':Pos}(hN:X.N.Nodup)(hi:X.N[i]?=some x)(hx:Loc X.env.scope x)(he:PE X e te)(ho:PIp X op ti)(hf:X.fn x=true∨X.env.scope.names.lookup x=some .local:=by first|exact .inl rfl|exact .inr rfl|assumption):
  PS X (.AugAssign (.Name x pos') op e pos) (Gs i te ti):=by
 intro J5 s σ H D I h;obtain⟨v,e1,h⟩:=h;obtain⟨m,hn,hl⟩:=I.loc;have vis:JJ X.env.scope x:=by rcases hx with k|k;exact .inl k;exact .inr (.inl k)
 obtain⟨u,r,l⟩:=hl i x v hi e1 vis;refine wpAny_AugAssign_Name ?_;have go:wpAny (model X.prog X.w) X.A (eval e X.env) (fun w s₂=>wpAny (model X.prog X.w) X.A (inplaceOp op u w) (fun r s₃=>wpAny (model X.prog X.w) X.A (storeName X.env x r) (fun _=>SP X J5 D .next) X.xe s₃) X.xe s₂) X.xe s:=by
  refine cz (he J5 s σ H _ I h) fun w s1 ⟨y,H1,I1,r1,q1⟩=>?_;refine cz (ho J5 s1 σ H1 v y u w _ I1 r r1 q1) fun z s2 ⟨zv,H2,I2,r2,q2⟩=>?_;exact tH I2 hN hi hx r2 (fun s3 I3=>⟨_,H2,I3,q2⟩) hf
 rcases l with⟨hk,hm⟩|⟨hk,c,hc,hcell⟩
 ·exact wpAny_loadName_local I.ok.kind hk hn hm go
 ·rcases hk with hk|hk
  ·exact wpAny_loadName_cell I.ok.kind hk hc hcell go
  ·rcases hx with k|k
   ·have:X.env.scope.names.lookup x=some .free:=hk;rw[k]at this;cases this
   ·have:X.env.scope.names.lookup x=some .free:=hk;rw[k]at this;cases this
def Jo(f:Int->Int->Int):JK:=fun x y H Q=>∃i j,x=.int i/\y=.int j/\Q (.int (f i j)) H
theorem Fx:PIp X .Add (Jo fun i j=>i+j):=by
 intro J5 s σ H x y v u Q I r1 r2 h;obtain⟨i,j,e1,e2,q⟩:=h;subst e1;subst e2;obtain⟨t,rfl⟩:=r1;obtain⟨t',rfl⟩:=r2;exact iadd_int ⟨.int _,H,I.tok _,⟨_,rfl⟩,q⟩
theorem IF:PIp X .Sub (Jo fun i j=>i-j):=by
 intro J5 s σ H x y v u Q I r1 r2 h;obtain⟨i,j,e1,e2,q⟩:=h;subst e1;subst e2;obtain⟨t,rfl⟩:=r1;obtain⟨t',rfl⟩:=r2;exact isub_int ⟨.int _,H,I.tok _,⟨_,rfl⟩,q⟩
end
section
variable{X:Cx}{pos:Pos}
def tD(c:TT)(tb:TS):TS:=fun D σ H=>∃W:Nat->St->Hp->Prop,(∃m,W m σ H)/\∀m σ H,W m σ H ->
 c σ H fun b H1=>if b=true then ∃N:St->Hp->Prop,(∀σ' H',N σ' H'->∃m',m'<m/\W m' σ' H')/\tb { D with nx:=N,ct:=N,bk:=D.nx } σ H1 else D.nx σ H1
theorem oP{c:Expr}{body:List Stmt}{tc:TT}{tb:TS}(hp:PassesOwn (model X.prog X.w) X.A X.env X.xe)(hc:PT X c tc)(hb:Ae X body tb):PS X (.While c body [] pos) (tD tc tb):=by
 intro J5 s σ H D I h;obtain⟨W,⟨m0,w0⟩,turn⟩:=h;refine wpAny_While (codeAny_whileLoop (fun n s'=>∃σ' H',Inv X J5 σ' H' s'/\W n σ' H') ?_ m0 ⟨σ,H,I,w0⟩);rintro n s1 ⟨σ1,H1,I1,w1⟩;refine sC hp (cz (hc J5 s1 σ1 H1 _ I1 (turn n σ1 H1 w1)) fun b s2 ⟨H2,I2,q2⟩=>?_);cases b with
 |true =>
  obtain⟨N,hN,q2⟩:=q2;rw[if_pos rfl];refine sC hp (cz (hb J5 s2 σ1 H2 _ I2 q2) fun f s3 q3=>?_);cases f with
  |next =>
   obtain⟨σ3,H3,I3,n3⟩:=q3;obtain⟨m',hm,w3⟩:=hN σ3 H3 n3;exact⟨m',hm,σ3,H3,I3,w3⟩
  |cont =>
   obtain⟨σ3,H3,I3,n3⟩:=q3;obtain⟨m',hm,w3⟩:=hN σ3 H3 n3;exact⟨m',hm,σ3,H3,I3,w3⟩
  |brk=>exact q3
  |ret v=>exact q3
 |false =>
  rw[if_neg gX];exact BC ⟨σ1,H2,I2,q2⟩
end
structure It where
 go:Nat->Hp->Prop
 yld:Nat->Hp->V->Hp->Prop
 stop:Nat->Hp->Prop
def mm(X:Cx)(J5:Zd)(H:Hp)(b:Addr):Prop :=
 H b=none/\b≠X.env.locals/\b∉X.fs/\(b∈X.ex∨X.s₀.heap.objs.size<=b)/\(∀x c,X.env.cells.lookup x=some c->c≠b)/\∀p∈X.pn++J5,p.1≠b
theorem Inv.fpOk{X:Cx}{J5:Zd}{σ:St}{H H':Hp}{s:Shared}{b:Addr}(I:Inv X J5 σ H s)(hb:s.heap.objs.size<=b)(hn:H' b=none):mm X J5 H' b:=by
 refine⟨hn,h_ (gL I.lt hb),I.nofs hb,.inr (aG I.sz hb),fun x c e z=>?_,fun p hp z=>?_⟩
 ·obtain⟨v,q⟩:=I.cell x c e;exact absurd (gL q.lt (by rw[z];exact hb)) (mv _)
 ·exact absurd (gL (aU (I.pin p hp).1) (by rw[z];exact hb)) (mv _)
structure rO(P:bO)(w:World)(K:Za)(tg:Expr)(J:It)(fp:Ze)(it:Addr)(tn:Nat->Heap->Prop):Prop where
 mem:it∈fp
 obj:∀i h,tn i h->∀b∈fp,∃o,h.get? b=some o/\∀v,o.data≠.cell v
 keep:∀i h h',tn i h->(∀b∈fp,∀o,h.get? b=some o->h'.get? b=some o)->tn i h'
 item:∀(X:Cx),X.prog=P->X.w=w->X.K=K->X.calm=true->∀(i:Nat) (J5:Zd) (s:Shared) (σ:St) (H:Hp) (E:Zc),Inv X J5 σ H s->(∀b∈fp,mm X J5 H b)->tn i s.heap->J.go i H ->
  wpAny (model P w) X.A (pyNext (.ref it)) (fun r s1=>∃u,r=some u /\
   wpAny (model P w) X.A (BB tg (.ref it) u) (fun _ s2=>∃x H',Inv X J5 σ H' s2/\RelV x u/\J.yld i H x H'/\tn (i+1) s2.heap/\∀b∈fp,H' b=none) E s1) E s
 done:∀(X:Cx),X.prog=P->X.w=w->X.K=K->X.calm=true->∀(i:Nat) (J5:Zd) (s:Shared) (σ:St) (H:Hp) (E:Zc),Inv X J5 σ H s->(∀b∈fp,mm X J5 H b)->tn i s.heap->J.stop i H ->
  wpAny (model P w) X.A (pyNext (.ref it)) (fun r s1=>r=none/\Inv X J5 σ H s1) E s
 self:∀(A:Around) (i:Nat) (s:Shared) (Q:Zc) (E:Zc),tn i s.heap->Q (.ref it) s->wpAny (model P w) A (pyIter (.ref it)) Q E s
abbrev TI:=St->Hp->(It->Hp->Prop)->Prop
def PIE(X:Cx)(J5:Zd)(σ:St)(tg:Expr)(R:It->Hp->Prop)(itv:Value)(s2:Shared):Prop :=
 ∃(it:Addr) (fp:Ze) (tn:Nat->Heap->Prop) (J:It) (H':Hp),itv=.ref it/\Inv X J5 σ H' s2/\rO X.prog X.w X.K tg J fp it tn/\tn 0 s2.heap/\(∀b∈fp,mm X J5 H' b)/\R J H'
def PI(X:Cx)(tg iter:Expr)(wi:TI):Prop :=
 ∀(J5:Zd) (s:Shared) (σ:St) (H:Hp) (R:It->Hp->Prop),Inv X J5 σ H s->wi σ H R ->
  wpAny (model X.prog X.w) X.A (eval iter X.env) (fun v s1=>wpAny (model X.prog X.w) X.A (pyIter v) (PIE X J5 σ tg R) X.xe s1) X.xe s
theorem uk{M:Model}{A:Around}{E:Zc}{s:Shared}{tg:Expr}{it:Addr}{u:Value}{o:Obj}{n:String}{vs:Array Value}{Q:Unit->Shared->Prop}(ho:s.heap.get? it=some o)(hc:o.cls=.type n)(hd:o.data=.fields vs)
    (hn:["enumerate","zip","dict_itemiterator","dict_reverseitemiterator","odict_iterator","itertools.zip_longest","itertools.pairwise"].contains n=false) (hQ:Q () s):wpAny M A (BB tg (.ref it) u) Q E s:=by
  unfold BB;cases tg<;>first
    |exact aT hQ
    | (cases u <;> first
        |exact aT hQ
        | (refine ao (wpAny_load ho ?_)
           rw[hc,hd];show wpAny M A (if(["enumerate","zip","dict_itemiterator","dict_reverseitemiterator","odict_iterator","itertools.zip_longest","itertools.pairwise"].contains n && vs[0]?==some (rawInt _))=true then _ else _) Q E s
           rw[if_neg (by intro h;rw[hn,Bool.false_and]at h;cases h)];exact aT hQ))
def Gf(K:Za)(a:Addr):It :=
 ⟨fun i H=>∃xs x,az K H a xs/\xs[i]?=some x,fun i H x H'=>H'=H/\∀xs,az K H a xs->xs[i]?=some x,fun i H=>∃xs,az K H a xs/\xs.length<=i⟩
def IR(K:Za)(a:Addr):It :=
 ⟨fun i H=>∃xs x,bE K H a xs/\xs[i]?=some x,fun i H x H'=>H'=H/\∀xs,bE K H a xs->xs[i]?=some x,fun i H=>∃xs,bE K H a xs/\xs.length<=i⟩
def IS(lo:Int)(n:Nat):It:=⟨fun i _=>i<n,fun i H x H'=>H'=H/\x=.int (lo+i),fun i _=>n<=i⟩
theorem vo{P:bO}{w:World}{K:Za}{tg:Expr}(a it:Addr):rO P w K tg (Gf K a) [it] it (fun i h=>h.IsListIter it a i) where
 mem:=by simp
 obj:=fun i h st b hb=>by
  have e:b=it:=by simpa using hb
  subst e;obtain⟨o,e,c,d⟩:=st;exact⟨o,e,fun v z=>by rw[d]at z;cases z⟩
 keep:=fun i h h' st k=>st.at fun o e=>k it (by simp) o e
 item:=by
  intro X hP hw hK hc i J5 s σ H E I hf st hg;subst hP hw hK;obtain⟨xs,x,hq,hx⟩:=hg;obtain⟨its,rv,p,hz⟩:=I.list hq;obtain⟨u,hu,ru⟩:=rv.get hx;obtain⟨f0,f1,f2,f3,f4,f5⟩:=hf it (by simp);refine wpAny_pyNext_list_item st p.isList (x:=u) (by simpa using hu) fun h' st' sb=>?_;have I1:Inv X J5 σ H { s with heap:=h' }:=I.turned (t':=s.toks) (fun b o hb e=>(sb.2 b hb).trans e) f0 f1 f3 f4 f5;obtain⟨o,e,c,d⟩:=id st';exact⟨u,rfl,uk (s:={ s with heap:=h' }) e c d (by decide) ⟨x,H,I1,ru,⟨rfl,fun ys hy=>by rw[I.list_inj hy hq];exact hx⟩,st',fun b hb=>(hf b hb).1⟩⟩
 done:=by
  intro X hP hw hK hc i J5 s σ H E I hf st hg;subst hP hw hK;obtain⟨xs,hq,hx⟩:=hg;obtain⟨its,rv,p,hz⟩:=I.list hq;obtain⟨f0,f1,f2,f3,f4,f5⟩:=hf it (by simp);have hl:=rv.length;exact wpAny_pyNext_list_end (I.ok.hd hc) st p.isList (by simp;omega) fun h' eb=>⟨rfl,I.turned (t':=s.toks) (fun b o hb e=>eb b o hb e) f0 f1 f3 f4 f5⟩
 self:=fun _ _ _ _ _ st h=>wpAny_pyIter_listiter st h
theorem tf{P:bO}{w:World}{K:Za}{tg:Expr}(a it:Addr):rO P w K tg (IR K a) [it] it (fun i h=>h.IsTupleIter it a i) where
 mem:=by simp
 obj:=fun i h st b hb=>by
  have e:b=it:=by simpa using hb
  subst e;obtain⟨o,e,c,d⟩:=st;exact⟨o,e,fun v z=>by rw[d]at z;cases z⟩
 keep:=fun i h h' st k=>st.at fun o e=>k it (by simp) o e
 item:=by
  intro X hP hw hK hc i J5 s σ H E I hf st hg;subst hP hw hK;obtain⟨xs,x,hq,hx⟩:=hg;obtain⟨its,rv,p,hz⟩:=I.tuple hq;obtain⟨u,hu,ru⟩:=rv.get hx;obtain⟨f0,f1,f2,f3,f4,f5⟩:=hf it (by simp);refine wpAny_pyNext_tuple_item st (show s.heap.IsTuple a its.toArray from p) (x:=u) (by simpa using hu) fun h' st' sb=>?_;have I1:Inv X J5 σ H { s with heap:=h' }:=I.turned (t':=s.toks) (fun b o hb e=>(sb.2 b hb).trans e) f0 f1 f3 f4 f5;obtain⟨o,e,c,d⟩:=id st';exact⟨u,rfl,uk (s:={ s with heap:=h' }) e c d (by decide) ⟨x,H,I1,ru,⟨rfl,fun ys hy=>by rw[I.tuple_inj hy hq];exact hx⟩,st',fun b hb=>(hf b hb).1⟩⟩
 done:=by
  intro X hP hw hK hc i J5 s σ H E I hf st hg;subst hP hw hK;obtain⟨xs,hq,hx⟩:=hg;obtain⟨its,rv,p,hz⟩:=I.tuple hq;obtain⟨f0,f1,f2,f3,f4,f5⟩:=hf it (by simp);have hl:=rv.length;exact wpAny_pyNext_tuple_end (I.ok.hd hc) st (show s.heap.IsTuple a its.toArray from p) (by simp;omega) fun h' eb=>⟨rfl,I.turned (t':=s.toks) (fun b o hb e=>eb b o hb e) f0 f1 f3 f4 f5⟩
 self:=fun _ _ _ _ _ st h=>wpAny_pyIter_tupleiter st h
theorem Ai{P:bO}{w:World}{K:Za}{tg:Expr}(it:Addr)(lo:Int)(n:Nat):rO P w K tg (IS lo n) [it] it (fun i h=>IsRangeIter h it (lo+(i:Nat) * 1) ((n:Int)-(i:Nat)) 1) where
 mem:=by simp
 obj:=fun i h st b hb=>by
  have e:b=it:=by simpa using hb
  subst e;exact⟨_,st,fun v z=>by
   have z':Data.fields _=Data.cell v:=z;cases z'⟩
 keep:=fun i h h' st k=>k it (by simp) _ st
 item:=by
  intro X hP hw hK hc i J5 s σ H E I hf st hg;subst hP hw hK;obtain⟨f0,f1,f2,f3,f4,f5⟩:=hf it (by simp);have W:=Walks.range (prog:=X.prog) (w:=X.w) (I.ok.hd hc) it lo 1 n;refine W.item i s _ _ hg st fun v h' tk hv st' kk=>?_;obtain⟨t,rfl⟩:=hv;have I1:Inv X J5 σ H { s with heap:=h',toks:=tk }:=I.turned (fun b o hb e=>kk b o (by simpa using hb) e) f0 f1 f3 f4 f5;refine⟨_,rfl,uk (s:={ s with heap:=h',toks:=tk }) (n:="range_iterator") st' rfl rfl (by decide) ⟨.int (lo+i),H,I1,⟨t,?_⟩,⟨rfl,rfl⟩,st',fun b hb=>(hf b hb).1⟩⟩;rw[Int.mul_one]
 done:=by
  intro X hP hw hK hc i J5 s σ H E I hf st hg;subst hP hw hK;obtain⟨f0,f1,f2,f3,f4,f5⟩:=hf it (by simp);exact wpAny_pyNext_range_end (I.ok.hd hc) st (by have:n<=i:=hg;omega) fun h' eb=>⟨rfl,I.turned (t':=s.toks) (fun b o hb e=>eb b o hb e) f0 f1 f3 f4 f5⟩
 self:=fun _ _ _ _ _ st h=>wpAny_pyIter_rangeiter st h
end L2
namespace L2
open PySem PySem.Spec PyProof.Rows
section
variable{X:Cx}{tg:Expr}
def b0(K:Za)(tl:TE):TI:=fun σ H R=>tl σ H fun x H1=>∃a,x=.ref a/\(∃xs,az K H1 a xs)/\R (Gf K a) H1
def Du(K:Za)(tl:TE):TI:=fun σ H R=>tl σ H fun x H1=>∃a,x=.ref a/\(∃xs,bE K H1 a xs)/\R (IR K a) H1
theorem aQ{l:Expr}{tl:TE}(hl:PE X l tl):PI X tg l (b0 X.K tl):=by
 intro J5 s σ H R I h;refine cz (hl J5 s σ H _ I h) fun v s1 ⟨x,H1,I1,r1,q1⟩=>?_;obtain⟨a,e,⟨xs,hq⟩,q⟩:=q1;subst e;cases r1;obtain⟨its,rv,p,hz⟩:=I1.list hq;refine BA p.isList ?_;refine⟨s1.heap.objs.size,[s1.heap.objs.size],_,_,H1,rfl,I1.kept (t':=s1.toks) fun b o e=>bq _ e,vo a _,⟨_,da _ rfl,rfl,rfl⟩,fun b hb=>?_,q⟩;have e:b=s1.heap.objs.size:=by simpa using hb
 subst e;exact I1.fpOk (ax _) (I1.hok.fresh (ax _))
theorem tS{l:Expr}{tl:TE}(hl:PE X l tl):PI X tg l (Du X.K tl):=by
 intro J5 s σ H R I h;refine cz (hl J5 s σ H _ I h) fun v s1 ⟨x,H1,I1,r1,q1⟩=>?_;obtain⟨a,e,⟨xs,hq⟩,q⟩:=q1;subst e;cases r1;obtain⟨its,rv,p,hz⟩:=I1.tuple hq;refine Bz (show s1.heap.IsTuple a its.toArray from p) ?_;refine⟨s1.heap.objs.size,[s1.heap.objs.size],_,_,H1,rfl,I1.kept (t':=s1.toks) fun b o e=>bq _ e,tf a _,⟨_,da _ rfl,rfl,rfl⟩,fun b hb=>?_,q⟩;have e:b=s1.heap.objs.size:=by simpa using hb
 subst e;exact I1.fpOk (ax _) (I1.hok.fresh (ax _))
theorem EL{J5:Zd}{σ:St}{H:Hp}{s:Shared}{R:It->Hp->Prop}{E:Zc}{lo hi:Int}{t u v:Tok}{tk:Nat}(I:Inv X J5 σ H s)(h1:-(2 ^ 62)<=lo)(h2:lo<2 ^ 62)(h3:-(2 ^ 62)<=hi)(h4:hi<2 ^ 62)
  (q:R (IS lo (hi-lo).toNat) H):wpAny (model X.prog X.w) X.A (pyIter (.ref s.heap.objs.size)) (PIE X J5 σ tg R) E { s with heap:=s.heap.push { cls:=.type "range",data:=.fields #[.int lo t,.int hi u,.int 1 v] },toks:=tk }:=by
 refine wpAny_pyIter_range (IsRange.new ..) (small_one h1 h2 h3 h4) ?_;have I1:Inv X J5 σ H { s with heap:=s.heap.push { cls:=.type "range",data:=.fields #[.int lo t,.int hi u,.int 1 v] },toks:=tk }:=I.kept fun b o e=>bq _ e;refine⟨(s.heap.push { cls:=.type "range",data:=.fields #[.int lo t,.int hi u,.int 1 v] }).objs.size,[(s.heap.push { cls:=.type "range",data:=.fields #[.int lo t,.int hi u,.int 1 v] }).objs.size],_,_,H,rfl,
  I1.kept (t':=tk) fun b o e=>bq _ e,Ai _ lo (hi-lo).toNat,?_,fun b hb=>?_,q⟩
 ·have e1:lo+((0:Nat):Int) * 1=lo:=by simp
  have e2:(((hi-lo).toNat:Nat):Int)-((0:Nat):Int)=cE.Range.rangeSize lo hi 1:=by rw[rangeSize_one];split<;>omega
  show IsRangeIter _ _ (lo+((0:Nat):Int) * 1) ((((hi-lo).toNat:Nat):Int)-((0:Nat):Int)) 1;rw[e1,e2];exact da _ rfl
 ·have e:b=(s.heap.push { cls:=.type "range",data:=.fields #[.int lo t,.int hi u,.int 1 v] }).objs.size:=by simpa using hb
  subst e;exact I1.fpOk (ax _) (I1.hok.fresh (ax _))
def uh(ta:TA):TI:=fun σ H R=>ta σ H fun vs H1=>∃j:Int,vs=[.int j]/\-(2 ^ 62)<=j/\j<2 ^ 62/\R (IS 0 j.toNat) H1
theorem iu{a:Expr}{ta:TA}{p pos:Pos}(hg:Gl X "range")(hm:X.mg "range"=none)(ha:PA X [a] ta)(hs:aF [a] X.env=[(false,eval a X.env)]:=by rfl):PI X tg (.Call (.Name "range" p) [a] [] pos) (uh ta):=by
 intro J5 s σ H R I h;refine Call_ (qd I hg hm boot_range (yC (cz (ha pos J5 s σ H _ I h) fun us s1 ⟨vs,H1,I1,r1,q1⟩=>?_) hs rfl));obtain⟨j,e,q1,q2,q⟩:=q1;subst e;cases r1 with
 |cons r rr =>
  cases rr;obtain⟨t,rfl⟩:=r;exact call_range_1 (EL I1 (by omega) (by omega) q1 q2 (by simpa using q))
def eS(wi:TI)(g:TG)(tb:TS):TS:=fun D σ H=>wi σ H fun J H1=>∃W:Nat->Nat->St->Hp->Prop,(∃m,W 0 m σ H1)/\∀i m σ H,W i m σ H ->
 (J.stop i H/\D.nx σ H)∨(J.go i H/\∃N:St->Hp->Prop,(∀σ' H',N σ' H'->∃m',m'<m/\W (i+1) m' σ' H')/\∀x H',J.yld i H x H'->g x σ H' fun σ2 H2=>tb { D with nx:=N,ct:=N,bk:=D.nx } σ2 H2)
def tR(fp:Ze)(h:Heap):List (Addr×Obj):=fp.filterMap fun b=>(h.get? b).map fun o=>(b,o)
theorem jX{fp:Ze}{h:Heap}{b:Addr}{o:Obj}(hb:b∈fp)(e:h.get? b=some o):(b,o)∈tR fp h:=List.mem_filterMap.mpr ⟨b,hb,by rw[e];rfl⟩
theorem Dl{fp:Ze}{h:Heap}{p:Addr×Obj}(hp:p∈tR fp h):p.1∈fp/\h.get? p.1=some p.2:=by
 obtain⟨b,hb,e⟩:=List.mem_filterMap.mp hp;cases q:h.get? b with
 |none=>rw[q]at e;cases e
 |some o =>
  rw[q]at e;have e':(b,o)=p:=ff e;subst e';exact⟨hb,q⟩
theorem Inv.pinned{J5:Zd}{σ:St}{H:Hp}{s:Shared}{fp:Ze}(I:Inv X J5 σ H s)(hf:∀b∈fp,mm X J5 H b)(ho:∀b∈fp,∃o,s.heap.get? b=some o/\∀v,o.data≠.cell v):Inv X (J5++tR fp s.heap) σ H s :=
 I.pins_of fun p hp=>(br.mp hp).elim (fun z=>I.pin p (cZ _ z)) fun z=>by
  obtain⟨hb,e⟩:=Dl z;obtain⟨f0,f1,f2,_⟩:=hf p.1 hb;obtain⟨o,e',d⟩:=ho p.1 hb;rw[e]at e';cases e';exact⟨e,f0,f1,f2,d⟩
theorem Inv.unpinned{J5 pl:Zd}{σ:St}{H:Hp}{s:Shared}(I:Inv X (J5++pl) σ H s):Inv X J5 σ H s:=I.pins_of fun p hp=>I.pin p (cZ _ (cL _ hp))
theorem bI{iter:Expr}{body:List Stmt}{wi:TI}{g:TG}{tb:TS}{pos:Pos}(hp:PassesOwn (model X.prog X.w) X.A X.env X.xe)(hc:X.calm=true)(hi:PI X tg iter wi)(hg:PG X tg g)(hb:Ae X body tb)
  (hs:∀x,yB iter X.env x=pure x:=by intro _;rfl):PS X (.For tg iter body [] pos) (eS wi g tb):=by
 intro J5 s σ H D I h;refine wpAny_For (cz (hi J5 s σ H _ I h) fun v s1 h1=>cz h1 fun itv s2 h2=>?_) hs;obtain⟨it,fp,tn,J,H2,e,I2,T,st2,f2,W,⟨m0,w0⟩,turn⟩:=h2;subst e;have stat:∀{H':Hp},(∀b∈fp,H' b=none)->∀b∈fp,mm X J5 H' b:=fun hn b hb=>⟨hn b hb,(f2 b hb).2⟩;refine codeAny_forLoop_any (fun n s'=>∃i σ' H',Inv X J5 σ' H' s'/\tn i s'.heap/\(∀b∈fp,H' b=none)/\W i n σ' H') ?_ m0 ⟨0,σ,H2,I2,st2,fun b hb=>(f2 b hb).1,w0⟩;rintro n s3 ⟨i,σ3,H3,I3,st3,fr3,w3⟩;rcases turn i n σ3 H3 w3 with⟨stop,qn⟩|⟨go,N,hN,step⟩
 ·refine sC hp (cz (T.done X rfl rfl rfl hc i J5 s3 σ3 H3 X.xe I3 (stat fr3) st3 stop) fun r s4 ⟨hr,I4⟩=>?_);subst hr;exact BC ⟨σ3,H3,I4,qn⟩
 ·refine sC hp (cz (T.item X rfl rfl rfl hc i J5 s3 σ3 H3 X.xe I3 (stat fr3) st3 go) fun r s4 ⟨u,hr,h4⟩=>?_);subst hr;refine sC hp (cz h4 fun _ s5 ⟨x,H5,I5,r5,y5,st5,fr5⟩=>?_);have I5':=I5.pinned (stat fr5) (T.obj _ _ st5);refine sC hp (cz (hg _ s5 σ3 H5 x u _ I5' r5 (step x H5 y5)) fun _ s6 ⟨σ6,H6,I6,q6⟩=>?_);refine sC hp (cz (hb _ s6 σ6 H6 _ I6 q6) fun f s7 q7=>?_);have again:∀{σ7:St}{H7:Hp},Inv X (J5++tR fp s5.heap) σ7 H7 s7->N σ7 H7->∃m,m<n/\∃i σ' H',Inv X J5 σ' H' s7/\tn i s7.heap/\(∀b∈fp,H' b=none)/\W i m σ' H':=fun{σ7 H7} I7 n7=>by
   obtain⟨m',hm,w7⟩:=hN σ7 H7 n7;refine⟨m',hm,i+1,σ7,H7,I7.unpinned,T.keep _ _ _ st5 fun b hb o e=>(I7.pin (b,o) (cZ _ (cZ _ (jX hb e)))).1,fun b hb=>?_,w7⟩;obtain⟨o,e,d⟩:=T.obj _ _ st5 b hb;exact(I7.pin (b,o) (cZ _ (cZ _ (jX hb e)))).2.1
  cases f with
  |next=>obtain⟨σ7,H7,I7,n7⟩:=q7;exact again I7 n7
  |cont=>obtain⟨σ7,H7,I7,n7⟩:=q7;exact again I7 n7
  |brk=>obtain⟨σ7,H7,I7,q7⟩:=q7;exact⟨σ7,H7,I7.unpinned,q7⟩
  |ret v=>obtain⟨x7,σ7,H7,I7,r7,q7⟩:=q7;exact⟨x7,σ7,H7,I7.unpinned,r7,q7⟩
end
theorem cr{K:Za}{a:Addr}{xs:List V}{g:TG}{tb:TS}{D:rY}{σ:St}{H:Hp}(Pv:Nat->St->Hp->Prop)(h0:Pv 0 σ H)(hl:∀i σ H,i<=xs.length->Pv i σ H->az K H a xs)
  (hs:∀i x σ H,xs[i]?=some x->Pv i σ H->g x σ H fun σ2 H2=>tb { D with nx:=Pv (i+1),ct:=Pv (i+1),bk:=D.nx } σ2 H2) (hd:∀σ H,Pv xs.length σ H->D.nx σ H) :
  ∃W:Nat->Nat->St->Hp->Prop,(∃m,W 0 m σ H)/\∀i m σ H,W i m σ H ->
   ((Gf K a).stop i H/\D.nx σ H)∨((Gf K a).go i H/\∃N:St->Hp->Prop,(∀σ' H',N σ' H'->∃m',m'<m/\W (i+1) m' σ' H')/\∀x H',(Gf K a).yld i H x H'->g x σ H' fun σ2 H2=>tb { D with nx:=N,ct:=N,bk:=D.nx } σ2 H2):=by
 refine⟨fun i m σ H=>m=xs.length-i/\i<=xs.length/\Pv i σ H,⟨xs.length,by simp,cG _,h0⟩,?_⟩;rintro i m σ H ⟨rfl,hi,p⟩;have q:=hl i σ H hi p;by_cases hlt:i<xs.length
 ·refine .inr ⟨⟨xs,xs[i],q,by simp[hlt]⟩,Pv (i+1),fun σ' H' p'=>⟨xs.length-(i+1),by omega,rfl,hlt,p'⟩,fun x H' y=>?_⟩;obtain⟨e,y⟩:=y;subst e;exact hs i x σ _ (y xs q) p
 ·have e:i=xs.length:=by omega
  subst e;exact .inl ⟨⟨xs,q,ax _⟩,hd σ H p⟩
theorem Cg{K:Za}{a:Addr}{xs:List V}{g:TG}{tb:TS}{D:rY}{σ:St}{H:Hp}(Pv:Nat->St->Hp->Prop)(h0:Pv 0 σ H)(hl:∀i σ H,i<=xs.length->Pv i σ H->bE K H a xs)
  (hs:∀i x σ H,xs[i]?=some x->Pv i σ H->g x σ H fun σ2 H2=>tb { D with nx:=Pv (i+1),ct:=Pv (i+1),bk:=D.nx } σ2 H2) (hd:∀σ H,Pv xs.length σ H->D.nx σ H) :
  ∃W:Nat->Nat->St->Hp->Prop,(∃m,W 0 m σ H)/\∀i m σ H,W i m σ H ->
   ((IR K a).stop i H/\D.nx σ H)∨((IR K a).go i H/\∃N:St->Hp->Prop,(∀σ' H',N σ' H'->∃m',m'<m/\W (i+1) m' σ' H')/\∀x H',(IR K a).yld i H x H'->g x σ H' fun σ2 H2=>tb { D with nx:=N,ct:=N,bk:=D.nx } σ2 H2):=by
 refine⟨fun i m σ H=>m=xs.length-i/\i<=xs.length/\Pv i σ H,⟨xs.length,by simp,cG _,h0⟩,?_⟩;rintro i m σ H ⟨rfl,hi,p⟩;have q:=hl i σ H hi p;by_cases hlt:i<xs.length
 ·refine .inr ⟨⟨xs,xs[i],q,by simp[hlt]⟩,Pv (i+1),fun σ' H' p'=>⟨xs.length-(i+1),by omega,rfl,hlt,p'⟩,fun x H' y=>?_⟩;obtain⟨e,y⟩:=y;subst e;exact hs i x σ _ (y xs q) p
 ·have e:i=xs.length:=by omega
  subst e;exact .inl ⟨⟨xs,q,ax _⟩,hd σ H p⟩
theorem jx{lo:Int}{n:Nat}{g:TG}{tb:TS}{D:rY}{σ:St}{H:Hp}(Pv:Nat->St->Hp->Prop)(h0:Pv 0 σ H)
  (hs:∀i σ H,i<n->Pv i σ H->g (.int (lo+i)) σ H fun σ2 H2=>tb { D with nx:=Pv (i+1),ct:=Pv (i+1),bk:=D.nx } σ2 H2) (hd:∀σ H,Pv n σ H->D.nx σ H) :
  ∃W:Nat->Nat->St->Hp->Prop,(∃m,W 0 m σ H)/\∀i m σ H,W i m σ H ->
   ((IS lo n).stop i H/\D.nx σ H)∨((IS lo n).go i H/\∃N:St->Hp->Prop,(∀σ' H',N σ' H'->∃m',m'<m/\W (i+1) m' σ' H')/\∀x H',(IS lo n).yld i H x H'->g x σ H' fun σ2 H2=>tb { D with nx:=N,ct:=N,bk:=D.nx } σ2 H2):=by
 refine⟨fun i m σ H=>m=n-i/\i<=n/\Pv i σ H,⟨n,by simp,cG _,h0⟩,?_⟩;rintro i m σ H ⟨rfl,hi,p⟩;by_cases hlt:i<n
 ·refine .inr ⟨hlt,Pv (i+1),fun σ' H' p'=>⟨n-(i+1),by omega,rfl,hlt,p'⟩,fun x H' y=>?_⟩;obtain⟨e,y⟩:=y;subst e y;exact hs i σ _ hlt p
 ·have e:i=n:=by omega
  subst e;exact .inl ⟨ax _,hd σ H p⟩
end L2
namespace L2
open PySem PySem.Spec PyProof.Rows
abbrev R2:=V->V->Hp->VK->Prop
def lg(X:Cx)(f:Value->Value->Sem Value)(r:R2):Prop :=
 ∀(J5:Zd) (s:Shared) (σ:St) (H:Hp) (x y:V) (v u:Value) (Q:VK),Inv X J5 σ H s->RelV x v->RelV y u->r x y H Q ->
  wpAny (model X.prog X.w) X.A (f v u) (EP X J5 σ Q) X.xe s
def UnR(X:Cx)(f:Value->Sem Value)(r:V->Hp->VK->Prop):Prop :=
 ∀(J5:Zd) (s:Shared) (σ:St) (H:Hp) (x:V) (v:Value) (Q:VK),Inv X J5 σ H s->RelV x v->r x H Q ->
  wpAny (model X.prog X.w) X.A (f v) (EP X J5 σ Q) X.xe s
def fW(X:Cx)(f:Value)(r:List V->Hp->VK->Prop):Prop :=
 ∀(J5:Zd) (s:Shared) (σ:St) (H:Hp) (xs:List V) (us:Zf) (Q:VK),Inv X J5 σ H s->aR xs us->r xs H Q ->
  wpAny (model X.prog X.w) X.A (call f us) (EP X J5 σ Q) X.xe s
def aD(r:R2)(ta tb:TE):TE:=fun σ H Q=>ta σ H fun x H1=>tb σ H1 fun y H2=>r x y H2 Q
def JI(r:V->Hp->VK->Prop)(ta:TE):TE:=fun σ H Q=>ta σ H fun x H1=>r x H1 Q
def rI(C:Int->Int->Prop)(g:Int->Int->V):R2:=fun x y H Q=>∃i j,x=.int i/\y=.int j/\C i j/\Q (g i j) H
def BN(g:Int->Int->V):R2:=fun x y H Q=>∃i j,x=.int i/\y=.int j/\Q (g i j) H
def rU(g:Int->V):V->Hp->VK->Prop:=fun x H Q=>∃i,x=.int i/\Q (g i) H
section
variable{X:Cx}{a b c:Expr}{ta tb tc:TE}{pos:Pos}
theorem IL(ha:PE X a ta)(hb:PE X b tb){J5:Zd}{s:Shared}{σ:St}{H:Hp}{R:V->V->Hp->Prop}(I:Inv X J5 σ H s)
  (h:ta σ H fun x H1=>tb σ H1 fun y H2=>R x y H2) {Q:Zc}{f:Value->Value->Sem Value}
  (hf:∀v u s2 x y H2,Inv X J5 σ H2 s2->RelV x v->RelV y u->R x y H2->wpAny (model X.prog X.w) X.A (f v u) Q X.xe s2) :
  wpAny (model X.prog X.w) X.A (eval a X.env) (fun v s₁=>wpAny (model X.prog X.w) X.A (eval b X.env) (fun u s₂=>wpAny (model X.prog X.w) X.A (f v u) Q X.xe s₂) X.xe s₁) X.xe s:=by
 refine cz (ha J5 s σ H _ I h) fun v s1 ⟨x,H1,I1,r1,q1⟩=>?_;refine cz (hb J5 s1 σ H1 _ I1 q1) fun u s2 ⟨y,H2,I2,r2,q2⟩=>?_;exact hf v u s2 x y H2 I2 r1 r2 q2
theorem aB{op:Operator}{r:R2}(ho:lg X (jj op) r)(ha:PE X a ta)(hb:PE X b tb):PE X (.BinOp a op b pos) (aD r ta tb):=by
 intro J5 s σ H Q I h;exact wpAny_BinOp (IL ha hb I h fun v u s2 x y H2 I2 rx ry q=>ho J5 s2 σ H2 x y v u Q I2 rx ry q)
theorem EZ{op:UnaryOp}{r:V->Hp->VK->Prop}(ho:UnR X (unaryOp op) r)(ha:PE X a ta):PE X (.UnaryOp op a pos) (JI r ta):=by
 intro J5 s σ H Q I h;exact UnaryOp_ (cz (ha J5 s σ H _ I h) fun v s1 ⟨x,H1,I1,r1,q1⟩=>ho J5 s1 σ H1 x v Q I1 r1 q1)
theorem Jl{f:Value->Value->Sem Value}{C:Int->Int->Prop}{g:Int->Int->Int}
  (rule:∀(i j:Int) (t u:Tok) (s:Shared) (Q:Zc) (E:Zc),C i j->Q (.int (g i j) s.toks) { s with toks:=s.toks+1 }->wpAny (model X.prog X.w) X.A (f (.int i t) (.int j u)) Q E s) :
  lg X f (rI C fun i j=>.int (g i j)):=by
 intro J5 s σ H x y v u Q I rx ry h;obtain⟨i,j,rfl,rfl,hc,q⟩:=h;obtain⟨t,rfl⟩:=rx;obtain⟨t',rfl⟩:=ry;exact rule i j t t' s _ _ hc ⟨.int (g i j),H,I.tok _,⟨_,rfl⟩,q⟩
theorem Jk{f:Value->Value->Sem Value}{g:Int->Int->Int}
  (rule:∀(i j:Int) (t u:Tok) (s:Shared) (Q:Zc) (E:Zc),Q (.int (g i j) s.toks) { s with toks:=s.toks+1 }->wpAny (model X.prog X.w) X.A (f (.int i t) (.int j u)) Q E s) :
  lg X f (BN fun i j=>.int (g i j)):=by
 intro J5 s σ H x y v u Q I rx ry h;obtain⟨i,j,rfl,rfl,q⟩:=h;obtain⟨t,rfl⟩:=rx;obtain⟨t',rfl⟩:=ry;exact rule i j t t' s _ _ ⟨.int (g i j),H,I.tok _,⟨_,rfl⟩,q⟩
theorem G9{f:Value->Value->Sem Value}{g:Int->Int->Bool}
  (rule:∀(i j:Int) (t u:Tok) (s:Shared) (Q:Zc) (E:Zc),Q (.bool (g i j)) s->wpAny (model X.prog X.w) X.A (f (.int i t) (.int j u)) Q E s) :
  lg X f (BN fun i j=>.bl (g i j)):=by
 intro J5 s σ H x y v u Q I rx ry h;obtain⟨i,j,rfl,rfl,q⟩:=h;obtain⟨t,rfl⟩:=rx;obtain⟨t',rfl⟩:=ry;exact rule i j t t' s _ _ ⟨.bl (g i j),H,I,rfl,q⟩
def JC(i j:Int):Prop:=0<j/\j<1073741824
def JB(i j:Int):Prop:=0<=j/\j<=1000000/\i.natAbs<2 ^ 64
def Gd(i j:Int):Prop:=(-(2 ^ 64)<i/\i<2 ^ 64)∨(-(2 ^ 64)<j/\j<2 ^ 64)
theorem Gd.ok{i j:Int}(h:Gd i j):IntMulOk i j:=by
 rcases h with⟨h1,h2⟩|⟨h1,h2⟩
 ·exact .of_left (intBits_le_64 h1 h2)
 ·exact .of_right (intBits_le_64 h1 h2)
theorem cg:lg X (jj .Add) (BN fun i j=>.int (i+j)):=Jk fun _ _ _ _ _ _ _ q=>add_int q
theorem jU:lg X (jj .Sub) (BN fun i j=>.int (i-j)):=Jk fun _ _ _ _ _ _ _ q=>sub_int q
theorem iK:lg X (jj .Mult) (rI Gd fun i j=>.int (i * j)):=Jl fun _ _ _ _ _ _ _ hc q=>mul_int q hc.ok
theorem B4:lg X (jj .FloorDiv) (rI JC fun i j=>.int (i / j)):=Jl fun i j _ _ _ _ _ hc q=>by
 have h1:(0:Int)<j:=hc.1;have h2:j<1073741824:=hc.2;exact floordiv_int (by omega) (by rw[Int.fdiv_eq_ediv_of_nonneg i (by omega)];exact q) (.inl (PyProof.noPylong_small (by omega)))
theorem fR:lg X (jj .Mod) (rI (fun _ j=>0<j) fun i j=>.int (i % j)):=Jl fun i j _ _ _ _ _ hc q=>by
 have h1:(0:Int)<j:=hc;exact mod_int' (by omega) (by rw[Int.fmod_eq_emod_of_nonneg i (by omega)];exact q)
theorem Fa:lg X (jj .Pow) (rI JB fun i j=>.int (i ^ j.toNat)):=Jl fun _ _ _ _ _ _ _ hc q=>pow_int_small hc.1 hc.2.1 hc.2.2 q
theorem unI{f:Value->Sem Value}{g:Int->Int}
  (rule:∀(i:Int) (t:Tok) (s:Shared) (Q:Zc) (E:Zc),Q (.int (g i) s.toks) { s with toks:=s.toks+1 }->wpAny (model X.prog X.w) X.A (f (.int i t)) Q E s) :
  UnR X f (rU fun i=>.int (g i)):=by
 intro J5 s σ H x v Q I rx h;obtain⟨i,rfl,q⟩:=h;obtain⟨t,rfl⟩:=rx;exact rule i t s _ _ ⟨.int (g i),H,I.tok _,⟨_,rfl⟩,q⟩
theorem Ah:UnR X (unaryOp .USub) (rU fun i=>.int (-i)):=unI fun _ _ _ _ _ q=>neg_int q
end
def Jc:V->V->Bool
 |.non,.non=>true | .non,.int _=>true | .int _,.non=>true | .non,.bl _=>true | .bl _,.non=>true | .non,.str _=>true | .str _,.non=>true
 |.int _,.int _=>true | .bl _,.bl _=>true | .str _,.str _=>true | .byt _,.byt _=>true
 |.int _,.str _=>true | .str _,.int _=>true | .bl _,.str _=>true | .str _,.bl _=>true
 |_,_=>false
def xz:R2:=fun x y H Q=>Jc x y=true/\Q (.bl (decide (x=y))) H
def IV:R2:=fun x y H Q=>Jc x y=true/\Q (.bl (!decide (x=y))) H
theorem Co{i j:Int}:decide (V.int i=V.int j)=(i==j):=by
 rw[yz];simp
theorem FO{i j:Bool}:decide (V.bl i=V.bl j)=(i==j):=by
 rw[yz];simp
theorem dec_str{i j:Str}:decide (V.str i=V.str j)=(i==j):=by
 rw[yz];simp
theorem Cp{i j:Array UInt8}:decide (V.byt i=V.byt j)=(i.toList==j.toList):=by
 rw[yz];cases i;cases j;simp
section
variable{X:Cx}{a b c:Expr}{ta tb tc:TE}{pos:Pos}
theorem bP{J5:Zd}{σ:St}{H:Hp}{s:Shared}{Q:VK}{k k':Bool}(I:Inv X J5 σ H s)(q:Q (.bl k) H)(e:k=k'):EP X J5 σ Q (.bool k') s:=by
 subst e;exact⟨.bl k,H,I,rfl,q⟩
theorem gS:lg X (ee .Eq) xz:=by
 intro J5 s σ H x y v u Q I rx ry h;obtain⟨hs,q⟩:=h;cases x with
 |non =>
  cases rx;cases y with
  |non=>cases ry;exact PySem.EqNone.eq_none_none (bP I q (by simp))
  |bl j=>cases ry;exact PySem.EqNone.eq_none_bool (bP I q (by simp))
  |int j=>obtain⟨t',rfl⟩:=ry;exact PySem.EqNone.eq_none_int (bP I q (by simp))
  |str j=>obtain⟨t',rfl⟩:=ry;exact PySem.EqNone.eq_none_str (bP I q (by simp))
  |_=>exact absurd (show false=true from hs) gX
 |bl i =>
  cases rx;cases y with
  |non=>cases ry;exact PySem.EqNone.eq_bool_none (bP I q (by simp))
  |bl j=>cases ry;exact eq_bool (bP I q FO)
  |str j=>obtain⟨t',rfl⟩:=ry;exact PySem.EqMixed.eq_bool_str (bP I q (by simp))
  |_=>exact absurd (show false=true from hs) gX
 |int i =>
  obtain⟨t,rfl⟩:=rx;cases y with
  |non=>cases ry;exact PySem.EqNone.eq_int_none (bP I q (by simp))
  |int j=>obtain⟨t',rfl⟩:=ry;exact eq_int (bP I q Co)
  |str j=>obtain⟨t',rfl⟩:=ry;exact PySem.EqMixed.eq_int_str (bP I q (by simp))
  |_=>exact absurd (show false=true from hs) gX
 |str i =>
  obtain⟨t,rfl⟩:=rx;cases y with
  |non=>cases ry;exact PySem.EqNone.eq_str_none (bP I q (by simp))
  |bl j=>cases ry;exact PySem.EqMixed.eq_str_bool (bP I q (by simp))
  |int j=>obtain⟨t',rfl⟩:=ry;exact PySem.EqMixed.eq_str_int (bP I q (by simp))
  |str j=>obtain⟨t',rfl⟩:=ry;exact eq_str (bP I q dec_str)
  |_=>exact absurd (show false=true from hs) gX
 |byt i =>
  obtain⟨t,rfl⟩:=rx;cases y with
  |byt j=>obtain⟨t',rfl⟩:=ry;exact PySem.W.eq_bytes (bP I q Cp)
  |_=>exact absurd (show false=true from hs) gX
 |_=>cases y<;>exact absurd (show false=true from hs) gX
theorem BZ:lg X (ee .NotEq) IV:=by
 intro J5 s σ H x y v u Q I rx ry h;obtain⟨hs,q⟩:=h;cases x with
 |non =>
  cases rx;cases y with
  |non=>cases ry;exact PySem.EqNone.ne_none_none (bP I q (by simp))
  |bl j=>cases ry;exact PySem.EqNone.ne_none_bool (bP I q (by simp))
  |int j=>obtain⟨t',rfl⟩:=ry;exact PySem.EqNone.ne_none_int (bP I q (by simp))
  |str j=>obtain⟨t',rfl⟩:=ry;exact PySem.EqNone.ne_none_str (bP I q (by simp))
  |_=>exact absurd (show false=true from hs) gX
 |bl i =>
  cases rx;cases y with
  |non=>cases ry;exact PySem.EqNone.ne_bool_none (bP I q (by simp))
  |bl j=>cases ry;exact ne_bool (bP I q (congrArg not FO))
  |str j=>obtain⟨t',rfl⟩:=ry;exact PySem.EqMixed.ne_bool_str (bP I q (by simp))
  |_=>exact absurd (show false=true from hs) gX
 |int i =>
  obtain⟨t,rfl⟩:=rx;cases y with
  |non=>cases ry;exact PySem.EqNone.ne_int_none (bP I q (by simp))
  |int j=>obtain⟨t',rfl⟩:=ry;exact ne_int (bP I q (congrArg not Co))
  |str j=>obtain⟨t',rfl⟩:=ry;exact PySem.EqMixed.ne_int_str (bP I q (by simp))
  |_=>exact absurd (show false=true from hs) gX
 |str i =>
  obtain⟨t,rfl⟩:=rx;cases y with
  |non=>cases ry;exact PySem.EqNone.ne_str_none (bP I q (by simp))
  |bl j=>cases ry;exact PySem.EqMixed.ne_str_bool (bP I q (by simp))
  |int j=>obtain⟨t',rfl⟩:=ry;exact PySem.EqMixed.ne_str_int (bP I q (by simp))
  |str j=>obtain⟨t',rfl⟩:=ry;exact ne_str (bP I q (congrArg not dec_str))
  |_=>exact absurd (show false=true from hs) gX
 |byt i =>
  obtain⟨t,rfl⟩:=rx;cases y with
  |byt j=>obtain⟨t',rfl⟩:=ry;exact PySem.W.ne_bytes (bP I q (congrArg not Cp))
  |_=>exact absurd (show false=true from hs) gX
 |_=>cases y<;>exact absurd (show false=true from hs) gX
theorem zo:lg X (ee .Lt) (BN fun i j=>.bl (decide (i<j))):=G9 fun _ _ _ _ _ _ _ q=>lt_int q
theorem Jj:lg X (ee .LtE) (BN fun i j=>.bl (decide (i<=j))):=G9 fun _ _ _ _ _ _ _ q=>le_int q
theorem qQ:lg X (ee .Gt) (BN fun i j=>.bl (decide (j<i))):=G9 fun _ _ _ _ _ _ _ q=>gt_int q
theorem Fc:lg X (ee .GtE) (BN fun i j=>.bl (decide (j<=i))):=G9 fun _ _ _ _ _ _ _ q=>ge_int q
theorem Dk:lg X (ee .In) (fun x y H Q=>∃i j,x=.str i/\y=.str j/\Q (.bl (!(cE.Str.occurrences j i 0 j.length 1).isEmpty)) H):=by
 intro J5 s σ H x y v u Q I rx ry h;obtain⟨i,j,rfl,rfl,q⟩:=h;obtain⟨t,rfl⟩:=rx;obtain⟨t',rfl⟩:=ry;exact in_str (bP I q rfl)
theorem Fj(b:Expr){op:CmpOp}(h:op≠.In:=by decide)(h2:op≠.NotIn:=by decide):ke op b=false:=by
 have e1:(op==CmpOp.In)=false:=by cases op<;>first|rfl|exact absurd rfl h
 have e2:(op==CmpOp.NotIn)=false:=by cases op<;>first|rfl|exact absurd rfl h2
 cases b<;>simp[ke,e1,e2]
theorem BW{op:CmpOp}{r:R2}(ho:lg X (ee op) r)(ha:PE X a ta)(hb:PE X b tb)(hm:ke op b=false):PE X (.Compare a [op] [b] pos) (aD r ta tb):=by
 intro J5 s σ H Q I h;exact wpAny_Compare1 (IL ha hb I h fun v u s2 x y H2 I2 rx ry q=>ho J5 s2 σ H2 x y v u Q I2 rx ry q) hm
def aW(t:TE):TT:=fun σ H Q=>t σ H fun x H'=>∃k,x=.bl k/\Q k H'
theorem BQ{op:CmpOp}{r:R2}(ho:lg X (ee op) r)(ha:PE X a ta)(hb:PE X b tb)(hm:ke op b=false):PT X (.Compare a [op] [b] pos) (aW (aD r ta tb)):=by
 intro J5 s σ H Q I h;refine wpAny_isTrue_Compare1 (cz (ha J5 s σ H _ I h) fun v s1 ⟨x,H1,I1,r1,q1⟩=>cz (hb J5 s1 σ H1 _ I1 q1) fun u s2 ⟨y,H2,I2,r2,q2⟩ =>
  cz (ho J5 s2 σ H2 x y v u _ I2 r1 r2 q2) fun c s3 ⟨z,H3,I3,r3,k,e,q3⟩=>?_) hm
 subst e;cases r3;exact sH ⟨H3,I3,q3⟩
theorem qb:(aj:Nat)<2 ^ 63:=by rw[vj];decide
theorem tZ:lg X (jj .Add) (fun x y H Q=>∃i j,x=.str i/\y=.str j/\i.length+j.length<=aj/\Q (.str (i++j)) H):=by
 intro J5 s σ H x y v u Q I rx ry h;obtain⟨i,j,rfl,rfl,hz,q⟩:=h;obtain⟨t,rfl⟩:=rx;obtain⟨t',rfl⟩:=ry;exact add_str (fun t' tk=>⟨.str (i++j),H,I.tok _,⟨_,rfl⟩,q⟩) hz
theorem vals1{x:V}{us:Zf}(r:aR [x] us):∃u,us=[u]/\RelV x u:=by
 cases r with
 |cons r1 r2=>cases r2;exact⟨_,rfl,r1⟩
theorem vals2{x y:V}{us:Zf}(r:aR [x,y] us):∃u w',us=[u,w']/\RelV x u/\RelV y w':=by
 cases r with
 |cons r1 r2 =>
  cases r2 with
  |cons r3 r4=>cases r4;exact⟨_,_,rfl,r1,r3⟩
end
end L2
namespace L2
open PySem PySem.Spec PyProof.Rows
structure Bk(h:Heap)(x dx C:Addr)(mA:Str->Option Value):Prop where
 obj:h.get? x=some (qM C dx)
 ns:h.Ns1 dx mA
 ne:dx≠x
theorem Dq{h:Heap}{dx:Addr}{mA:Str->Option Value}(n:h.Ns1 dx mA):∃od,h.get? dx=some od/\∀name,By name od=some (mA name):=by
 obtain⟨o,es,ep,ho,hd,hk,_,hm⟩:=n;refine⟨o,ho,fun name=>?_⟩;have e:=hm name;unfold nsFind findBy at e;rw[<-Array.find?_toList]at e;unfold By;rw[hd];dsimp only;split
 ·rename_i y q;rw[q]at e;exact congrArg some e
 ·rename_i q;rw[q]at e;have a:es.toList.any (·.refKey)=false:=by
   rw[List.any_eq_false];intro y hy;obtain⟨z,t,hkey⟩:=hk y (Array.mem_toList_iff.mp hy);simp[kE.refKey,hkey]
  have a':¬es.toList.any (·.refKey)=true:=by rw[a];exact gX
  rw[if_neg a'];exact congrArg some e
theorem Bk.look{h:Heap}{x dx C:Addr}{mA:Str->Option Value}(I:Bk h x dx C mA):∃od,PySem.W.InstAt h x (qM C dx) C (some od)/\∀name,By name od=some (mA name) :=
 let⟨od,ho,hl⟩:=Dq I.ns
 ⟨od,⟨I.obj,rfl,rfl,ho⟩,hl⟩
section
variable{prog:bO}{w:World}{A:Around}{E:Zc}{s:Shared}{K:Za}{x dx C f:Addr}{mA:Str->Option Value}{name:Str}{v:Value}
theorem Hh{expr:Bool}{Q:Zc}(X:K.In s.heap)(I:Bk s.heap x dx C mA)(hg:sy K C name=true)(hh:vi K C=true)
  (ha:c_ K (.ref C) name=some none) (hv:mA name=some v) (hv':PySem.W.handedIn v=true) (h:Q v { s with toks:=s.toks+1 }) :
  wpAny (model prog w) A (getAttr (.ref x) name expr) Q E s:=by
 obtain⟨od,J,hl⟩:=I.look;exact PySem.W.get_value X J (PySem.W.plainGet_of hg).1 (PySem.W.findObj_own hh ha rfl (by rw[hl,hv])) hv' h
theorem FD{pl:Sem Bool}{Q:Value×List Value->Shared->Prop}(X:K.In s.heap)(I:Bk s.heap x dx C mA)(hg:sy K C name=true)
  (hf:c_ K (.ref C) name=some (some (.ref f))) (ht:yy K (.ref f)=true) (hv:mA name=none) (h:Q (.ref f,[.ref x]) s) :
  wpAny (model prog w) A (qI (.ref x) name pl) Q E s:=by
 obtain⟨od,J,hl⟩:=I.look;exact PySem.W.method_fn X J (PySem.W.plainGet_of hg).1 (PySem.W.plainGet_of hg).2 hf (beq_iff_eq.mp ht) (by show(By name od).map (·.isSome)=some false;rw[hl,hv];rfl) h
theorem GB{ns:Zb}{Q:Unit->Shared->Prop}(X:K.In s.heap)(I:Bk s.heap x dx C mA)
  (hs:c_ K (.ref C) "__setattr__"=some (some (.builtin "object.__setattr__"))) (hp:yv K C=true) (ht:PySem.W.takerIn K C name=some none) (hh:vi K C=true)
  (hw:PySem.Within mA ns) (hsz:ns.length<=aj)
  (h:∀h',Bk h' x dx C (fun y=>if y=name then some v else mA y)->i3 dx s.heap h'->Q () { s with heap:=h',toks:=s.toks+2 }) :
  wpAny (model prog w) A (setAttr (.ref x) name v) Q E s:=by
 obtain⟨od,J,hl⟩:=I.look;refine PySem.W.set_plain X J hs (PySem.W.osa_open (s:={ s with toks:=s.toks+1 }) (r:=none) X J hp ht fun b=>?_);obtain⟨cd,hc,hd'⟩:=PySem.W.any_some hh;have hx:s.heap.get? x=some ⟨.ref C,some dx,.plain,#[]⟩:=I.obj;refine ao (aT (ao (ao (wpAny_loadPart hx (ao (PySem.W.Looks.here (s:={ s with toks:=s.toks+1 }) (PySem.W.looks_clsIn X hc) ?_))))));rw[hd'];refine aT (a:=some dx) (ao (aT (ao ?_)));refine wpAny_nsSet1 (s:={ s with toks:=s.toks+1 }) I.ns fun h' hn2 hs2=>?_;obtain⟨oD,esD,epD,hoD,hdD,hcD⟩:=hn2.count (PySem.Within.cons name v hw);refine ao (wpAny_lookBehind hoD (by rw[hdD];exact pastItsLine_dict (aG hcD (by rw[fG];omega))) ?_);exact aT (h _ ⟨(hs2.2 _ (ix I.ne)).trans I.obj,hn2,I.ne⟩ hs2)
theorem Fo{R:Result->Shared->Prop}{vs:Zf}{kw:List (Str×Value)}(X:K.In s.heap)(hm:nQ K C=true)
  (hi:c_ K (.ref C) "__init__"=some (some (.ref f))) (hf:PySem.W.typeIn K (.ref f)=some (.type "function"))
  (h:zzl76 (model prog w) (A.under (.builtin "type.__call__" ⟨.ref C::vs,kw⟩)) (.call (.ref f) ⟨.ref (s.heap.objs.size+1)::vs,kw⟩) (PySem.W.InitBack (s.heap.objs.size+1) R)
   { s with heap:=(s.heap.push nP).push (qM C s.heap.objs.size) }) :
  zzl76 (model prog w) A (.call (.ref C) ⟨vs,kw⟩) R s:=by
 obtain⟨hh,g,d,t,os⟩:=s;exact PySem.W.make_core (PySem.W.makes_of X hm) (PySem.W.looks_findIn X hi) (fun self=>PySem.W.bind_fn X self hf) (.inl rfl) h
end
def cO(f:Str)(v:V):List (Str×V)->List (Str×V)
 |[]=>[(f,v)]
 | (g,x)::r=>if g=f then(g,v)::r else(g,x)::cO f v r
theorem bw(f g:Str)(v:V):∀fs:List (Str×V),(cO f v fs).lookup g=if g=f then some v else fs.lookup g
 |[]=>by
  show gb g [(f,v)]=_;by_cases h:g=f
  ·have hb:(g==f)=true:=beq_iff_eq.mpr h;simp only[gb,hb,if_pos h]
  ·have hb:(g==f)=false:=beq_eq_false_iff_ne.mpr h;simp only[gb,hb,if_neg h]
 | (k,x)::r=>by
  have ih:=bw f g v r;rw[show cO f v ((k,x)::r)=(if k=f then(k,v)::r else(k,x)::cO f v r)from rfl]
  by_cases hk:k=f
  ·rw[if_pos hk];by_cases h:g=k
   ·have hb:(g==k)=true:=beq_iff_eq.mpr h;simp only[gb,hb,if_pos (h.trans hk)]
   ·have hb:(g==k)=false:=beq_eq_false_iff_ne.mpr h;simp only[gb,hb,if_neg (fun e:g=f=>h (e.trans hk.symm))]
  ·rw[if_neg hk];by_cases h:g=k
   ·have hb:(g==k)=true:=beq_iff_eq.mpr h;simp only[gb,hb,if_neg (fun e:g=f=>hk (h.symm.trans e))]
   ·have hb:(g==k)=false:=beq_eq_false_iff_ne.mpr h;simp only[gb,hb];exact ih
theorem qh(f:Str)(v:V):∀fs:List (Str×V),f∈(cO f v fs).map (·.1)/\∀g,g∈fs.map (·.1)->g∈(cO f v fs).map (·.1)
 |[]=>⟨by simp[cO],fun g h=>by simp at h⟩
 | (k,x)::r=>by
  obtain⟨i1,i2⟩:=qh f v r;rw[show cO f v ((k,x)::r)=(if k=f then(k,v)::r else(k,x)::cO f v r)from rfl]
  by_cases hk:k=f
  ·rw[if_pos hk];subst hk;exact⟨by simp,fun g h=>by simpa using h⟩
  ·rw[if_neg hk];refine⟨?_,fun g h=>?_⟩
   ·rw[bg];exact dX _ i1
   ·rw[bg]at h ⊢;rcases cy.mp h with e|e
    ·exact cy.mpr (.inl e)
    ·exact dX _ (i2 g e)
theorem qT(f:Str)(v:V):∀fs:List (Str×V),(cO f v fs).length<=fs.length+1
 |[]=>by simp[cO]
 | (k,x)::r=>by
  have ih:=qT f v r;rw[show cO f v ((k,x)::r)=(if k=f then(k,v)::r else(k,x)::cO f v r)from rfl]
  by_cases hk:k=f
  ·rw[if_pos hk,fG,fG];omega
  ·rw[if_neg hk,fG,fG];omega
theorem ko.some_of{v:V}{o:Option Value}(r:ko (some v) o):∃u,o=some u/\RelV v u:=by
 cases o with
 |none=>exact(show False from r).elim
 |some u=>exact⟨u,rfl,r⟩
theorem ko.none_of{o:Option Value}(r:ko none o):o=none:=by
 cases o with
 |none=>rfl
 |some u=>exact(show False from r).elim
theorem DA{v:V}{u:Value}(r:RelV v u):PySem.W.handedIn u=true:=by
 cases v with
 |non=>cases(show u=Value.none from r);rfl
 |bl b=>cases(show u=Value.bool b from r);rfl
 |int i=>obtain⟨t,e⟩:=(show ∃t,u=Value.int i t from r);cases e;rfl
 |str x=>obtain⟨t,e⟩:=(show ∃t,u=Value.str x t from r);cases e;rfl
 |byt b=>obtain⟨t,e⟩:=(show ∃t,u=Value.bytes b t from r);cases e;rfl
 |flt b=>obtain⟨t,e⟩:=(show ∃t,u=Value.float b t from r);cases e;rfl
 |ref a=>cases(show u=Value.ref a from r);rfl
 |ty n=>cases(show u=Value.type n from r);rfl
section
variable{P:bO}{w:World}{H H':Hp}{h h':Heap}{a C dx:Addr}{fs fs':List (Str×V)}
theorem xO{K:Za}(hok:lT P w K H h)(e:H a=some (.ins C dx fs)):∃mA,Bk h a dx C mA/\(∀f,ko (fs.lookup f) (mA f))/\PySem.Within mA (fs.map (·.1))/\fs.length<=1000/\H dx=some (.own a):=by
 obtain⟨d,z,ne,ob,mA,n,r,q⟩:=(show cB P w K H h a (.ins C dx fs)from hok a _ e);exact⟨mA,⟨ob,n,ne⟩,r,q,z,d⟩
end
structure CF(K:Za)(C:Addr):Prop where
 pg:sy K C Bx=true
 hd:vi K C=true
 po:yv K C=true
 sa:c_ K (.ref C) "__setattr__"=some (some (.builtin "object.__setattr__"))
theorem CF.get{K:Za}{C:Addr}(c:CF K C)(f:Str):sy K C f=true:=c.pg
def dH(K:Za)(C:Addr)(f:Str):Prop:=c_ K (.ref C) f=some none
theorem dH.taker{K:Za}{C:Addr}{f:Str}(n:dH K C f):PySem.W.takerIn K C f=some none:=by
 unfold PySem.W.takerIn;rw[show c_ K (.ref C) f=some none from n]
 rfl
structure HD(K:Za)(C:Addr)(m:Str)(f:Addr):Prop where
 at_:c_ K (.ref C) m=some (some (.ref f))
 fn:yy K (.ref f)=true
 kp:gK K (.ref f)=true
section
variable{X:Cx}{J5:Zd}{σ:St}{H:Hp}{s:Shared}{a C dx:Addr}{fs:List (Str×V)}{f:Str}{v:V}{A:Around}{E:Zc}
theorem A6{b:Bool}{Q:Zc}(I:Inv X J5 σ H s)(e:H a=some (.ins C dx fs))(c:CF X.K C)(n:dH X.K C f)(l:fs.lookup f=some v)
  (h:∀u s',Inv X J5 σ H s'->RelV v u->Q u s'):wpAny (model X.prog X.w) A (getAttr (.ref a) f b) Q E s:=by
 obtain⟨mA,O,r,_,_,_⟩:=xO I.hok e;obtain⟨u,hu,ru⟩:=ko.some_of (v:=v) (o:=mA f) (by rw[<-l];exact r f);exact Hh I.kIn O (c.get f) c.hd n hu (DA ru) (h u _ (I.tok _) ru)
theorem ul{m:Str}{g:Addr}{pl:Sem Bool}{Q:Value×List Value->Shared->Prop}(I:Inv X J5 σ H s)(e:H a=some (.ins C dx fs))(c:CF X.K C)(k:HD X.K C m g)(l:fs.lookup m=none)
  (h:Q (.ref g,[.ref a]) s):wpAny (model X.prog X.w) A (qI (.ref a) m pl) Q E s:=by
 obtain⟨mA,O,r,_,_,_⟩:=xO I.hok e;have hn:mA m=none:=ko.none_of (by rw[<-l];exact r m);exact FD I.kIn O (c.get m) k.at_ k.fn hn h
theorem AB{y:V}{u:Value}{Q:Unit->Shared->Prop}(I:Inv X J5 σ H s)(e:H a=some (.ins C dx fs))(c:CF X.K C)(n:dH X.K C f)(hl:fs.length<1000)(ry:RelV y u)
  (h:∀s',Inv X J5 σ (upd H a (.ins C dx (cO f y fs))) s'->Q () s'):wpAny (model X.prog X.w) A (setAttr (.ref a) f u) Q E s:=by
 obtain⟨mA,O,r,wi,_,ho⟩:=xO I.hok e;have hz:(fs.map (·.1)).length<=aj:=by rw[ai,vj];omega
 refine GB I.kIn O c.sa c.po n.taker c.hd wi hz fun h' O' sb=>h _ ?_;have hd:∃o,h'.get? dx=some o:=let⟨o,_,_,e',_⟩:=O'.ns;⟨o,e'⟩;refine I.write (x:=a) (e:=dx) (by rw[e];exact qH) (.inr ho) (fun b q hb z=>(sb.2 b hb).trans z) hd ?_;refine⟨by rw[ah O.ne];exact ho,?_,O.ne,O'.obj,_,O'.ns,fun g=>?_,fun g hg=>?_⟩
 ·have:=qT f y fs;omega
 ·show ko ((cO f y fs).lookup g) (if g=f then some u else mA g)
  rw[bw];by_cases q:g=f
  ·rw[if_pos q,if_pos q];exact ry
  ·rw[if_neg q,if_neg q];exact r g
 ·by_cases q:g=f
  ·rw[q];exact(qh f y fs).1
  ·refine(qh f y fs).2 g (wi g fun z=>hg ?_);show(if g=f then some u else mA g)=none
   rw[if_neg q];exact z
theorem Inv.made(I:Inv X J5 σ H s):Inv X J5 σ (upd (upd H s.heap.objs.size (.own (s.heap.objs.size+1))) (s.heap.objs.size+1) (.ins C s.heap.objs.size []))
  { s with heap:=(s.heap.push nP).push (qM C s.heap.objs.size) }:=by
 have e1:(s.heap.push nP).get? s.heap.objs.size=some nP:=da s.heap rfl;have e2:((s.heap.push nP).push (qM C s.heap.objs.size)).get? (s.heap.objs.size+1)=some (qM C s.heap.objs.size):=by
  have:=da (s.heap.push nP) (o:=qM C s.heap.objs.size) rfl;rwa[qG]at this
 have e3:(s.heap.push nP).Ns s.heap.objs.size (fun _=>none):=⟨nP,#[],_,e1,rfl,(fun e he=>absurd he (by simp)),fun _=>rfl⟩;have I1:=I.laid (a:=s.heap.objs.size) (o:=.own (s.heap.objs.size+1)) (h':=s.heap.push nP) (t':=s.toks) (fun b u q=>bq _ q) (ax _) ⟨_,e1⟩;refine I1.laid (a:=s.heap.objs.size+1) (o:=.ins C s.heap.objs.size []) (t':=s.toks) (fun b u q=>bq _ q) (Nat.le_of_eq (qG _ _)) ?_;have ne:s.heap.objs.size≠s.heap.objs.size+1:=db (Bw _);refine⟨by rw[ah ne,aa],cG _,ne,e2,fun _=>none,(Heap.Ns1.of_empty e3).at fun o q=>bq _ q,fun _=>qH,fun y hy=>absurd rfl hy⟩
theorem Hu{prog:bO}{w:World}{env:Env}{e:Expr}{f:Str}{pos:Pos}{s:Shared}{Q:Zc}(hb:vh e f env (eval e env)=eval e env)
  (h:wpAny (model prog w) A (eval e env) (fun o s₁=>wpAny (model prog w) A (getAttr o f true) Q E s₁) E s):wpAny (model prog w) A (eval (.Attribute e f pos) env) Q E s :=
 Attribute_any_ h (by rw[arm_eval_Attribute,hb])
end
def iD(K:Za)(ta:TE)(f:Str):TE:=fun σ H Q=>ta σ H fun x H1=>∃a C dx fs v,x=.ref a/\H1 a=some (.ins C dx fs)/\CF K C/\dH K C f/\fs.lookup f=some v/\Q v H1
def oI(K:Za)(ta tv:TE)(f:Str):TS:=fun D σ H=>tv σ H fun y H1=>ta σ H1 fun x H2=>∃a C dx fs,x=.ref a/\H2 a=some (.ins C dx fs)/\CF K C/\dH K C f/\fs.length<1000 /\
 D.nx σ (upd H2 a (.ins C dx (cO f y fs)))
section
variable{X:Cx}{o e value:Expr}{f:Str}{pos pos' J9:Pos}{ta tv:TE}
theorem dC(he:PE X e ta)(hb:vh e f X.env (eval e X.env)=eval e X.env):PE X (.Attribute e f pos) (iD X.K ta f):=by
 intro J5 s σ H Q I h;refine Hu hb (cz (he J5 s σ H _ I h) fun u s1 ⟨x,H1,I1,rx,a,C,dx,fs,v,ex,ea,c,n,l,q⟩=>?_);subst ex;obtain rfl:u=Value.ref a:=rx;exact A6 I1 ea c n l fun u' s2 I2 ru=>⟨v,H1,I2,ru,q⟩
theorem gj(ha:PE X o ta)(hv:PE X value tv)(hs:qJ value (some (.Attribute o f pos')) pos.line X.env=pure false):PS X (.Assign [.Attribute o f pos'] value pos) (oI X.K ta tv f):=by
 intro J5 s σ H D I h;refine plainObj_wpAny_Assign_Attribute (cz (hv J5 s σ H _ I h) fun u s1 ⟨y,H1,I1,ry,q⟩=>cz (ha J5 s1 σ H1 _ I1 q) fun ov s2 ⟨x,H2,I2,rx,a,C,dx,fs,ex,ea,c,n,l,q2⟩=>?_) hs;subst ex;obtain rfl:ov=Value.ref a:=rx;exact AB I2 ea c n l ry fun s3 I3=>⟨σ,_,I3,q2⟩
end
end L2
namespace L2
open PySem PySem.Spec PyProof.Rows
structure eO(k:Nat)(A:Around):Prop where
 hd:A.handled=none
 dp:A.depth+3 * k+5<recursionLimit
 un:A.units+16 * k+200<cLine
theorem eO.mono{j k:Nat}{A:Around}(r:eO k A)(h:j<=k):eO j A:=⟨r.hd,by have:=r.dp;omega,by have:=r.un;omega⟩
theorem eO.deeper{k:Nat}{A:Around}(r:eO (k+1) A)(env:Env):eO k (A.deeper env) :=
 ⟨r.hd,by have:=r.dp;show A.depth+1+3 * k+5<_;omega,by have:=r.un;show A.units+3+16 * k+200<_;omega⟩
theorem AV{A:Around}{C:Addr}{us:Zf}{kw:List (Str×Value)}:(A.under (.builtin "type.__call__" ⟨.ref C::us,kw⟩)).depth=A.depth+1:=by
 first|rfl|simp[Around.under,Code.weight,Code.isCreation,Code.isGuard,Code.isCaller,Code.frames,Code.isFrame,guardIds]
theorem AU{A:Around}{C:Addr}{us:Zf}{kw:List (Str×Value)}:(A.under (.builtin "type.__call__" ⟨.ref C::us,kw⟩)).units=A.units+1:=by
 first|rfl|simp[Around.under,Code.cUnits,Code.frames,Code.isFrame]
theorem eO.make{k:Nat}{A:Around}(r:eO (k+1) A)(C:Addr)(us:Zf)(kw:List (Str×Value)):eO k (A.under (.builtin "type.__call__" ⟨.ref C::us,kw⟩)) :=
 ⟨r.hd,by have:=r.dp;rw[AV];omega,by have:=r.un;rw[AU];omega⟩
theorem eO.depth{k:Nat}{A:Around}(r:eO k A):A.depth<recursionLimit:=by have:=r.dp;omega
theorem eO.units{k:Nat}{A:Around}(r:eO k A):A.units+64<cLine:=by have:=r.un;omega
def bL:TA:=fun _ H Q=>Q [] H
def aw(ta:TE)(tr:TA):TA:=fun σ H Q=>ta σ H fun x H1=>tr σ H1 fun xs H2=>Q (x::xs) H2
abbrev aA(a:TE):TA:=aw a bL
abbrev aZ(a b:TE):TA:=aw a (aw b bL)
abbrev du(a b c:TE):TA:=aw a (aw b (aw c bL))
section
variable{X:Cx}{e:Expr}{es:List Expr}{te:TE}{t:TA}{pos:Pos}
theorem cP:PA X [] bL:=fun _ _ _ _ H Q I h=>Calls.spliced_nil ⟨[],H,I,.nil,h⟩
theorem bu(ha:PE X e te)(hr:PA X es t)(hs:aF (e::es) X.env=(false,eval e X.env)::aF es X.env:=by rfl):PA X (e::es) (aw te t):=by
 intro pos J5 s σ H Q I h;rw[hs];show wpAny _ _ (spliced ((false,eval e X.env)::backTo pos (aF es X.env))) _ _ s;refine Bv (cz (ha J5 s σ H _ I h) fun u s1 ⟨x,H1,I1,r1,q1⟩=>?_);exact cz (hr pos J5 s1 σ H1 _ I1 q1) fun us s2 ⟨xs,H2,I2,r2,q2⟩=>⟨x::xs,H2,I2,.cons r1 r2,q2⟩
def bR(t:TA):TE:=fun σ H Q=>t σ H fun xs H1=>xs.length<=aj/\∀p,H1 p=none->Q (.ref p) (upd H1 p (.tup xs))
def dg(t:TA):TE:=fun σ H Q=>t σ H fun xs H1=>xs.length<=aj/\∀p,H1 p=none->Q (.ref p) (upd H1 p (.lst xs))
theorem aK{x1}(h:PA X es t):PE X (.Tuple es x1 pos) (bR t):=by
 intro J5 s σ H Q I hq;refine wpAny_Tuple_spliced (cz (h pos J5 s σ H _ I hq) fun us s1 ⟨xs,H1,I1,r,z,q⟩=>⟨by rw[<-r.length];exact z,?_⟩);have hf:H1 s1.heap.objs.size=none:=I1.hok.fresh (ax _);refine⟨.ref s1.heap.objs.size,upd H1 s1.heap.objs.size (.tup xs),I1.laid (t':=s1.toks) (fun b u e=>bq _ e) (ax _) ?_,rfl,q _ hf⟩;exact⟨z,us,r,⟨_,da _ rfl,rfl,_,rfl⟩⟩
theorem bh(h:PA X es t):PE X (.List es pos) (dg t):=by
 intro J5 s σ H Q I hq;refine wpAny_List_spliced (cz (h pos J5 s σ H _ I hq) fun us s1 ⟨xs,H1,I1,r,z,q⟩=>⟨by rw[<-r.length];exact z,?_⟩);have hf:H1 s1.heap.objs.size=none:=I1.hok.fresh (ax _);refine⟨.ref s1.heap.objs.size,upd H1 s1.heap.objs.size (.lst xs),I1.laid (t':=s1.toks) (fun b u e=>bq _ e) (ax _) ?_,rfl,q _ hf⟩;exact⟨z,us,0,r,da _ rfl⟩
end
abbrev Sp:=List V->Hp->VK->XK->Prop
abbrev Ee:=List Env->Hp->Shared->XK->Value->Shared->Prop
structure Bp(P:bO)(w:World)(K:Za)(mg:Str->Option Value)(base:Heap)(A:Around)(outer:List Env)(s:Shared)(H:Hp):Prop where
 frames:A.frames=some outer
 mod:Mod K mg base
 bs:∀b o,base.get? b=some o->s.heap.get? b=some o/\H b=none
 bsz:base.objs.size<=s.heap.objs.size
 funs:s.heap.FunFrames base outer
 frf:∀b∈Eb outer,H b=none
 hok:lT P w K H s.heap
 bare:nR s.gens
def CE(outer:List Env)(P:bO)(w:World)(K:Za)(H:Hp)(s:Shared)(Q:VK)(u:Value)(s':Shared):Prop :=
 ∃v H',s'.os=s.os/\nR s'.gens/\Un (Eb outer) [] H H' s.heap s'.heap/\lT P w K H' s'.heap/\RelV v u/\Q v H'
def CR(CX:Ee)(outer:List Env)(P:bO)(w:World)(K:Za)(H:Hp)(s:Shared)(Q:VK)(E:XK)(r:Result)(s':Shared):Prop :=
 match r with
 |.ok (.ret u)=>CE outer P w K H s Q u s'
 |.ok _=>False
 |.error e=>CX outer H s E e s'
structure lm(P:bO)(w:World)(K:Za)(mg:Str->Option Value)(base:Heap)(CX:Ee)(k:Nat)(f:Addr)(fd:kb)(ps:Zb)(sp:Sp):Prop where
 len:∀vs H Q E,sp vs H Q E->vs.length=ps.length
 run:∀(A:Around) (outer:List Env) (s:Shared) (H:Hp) (args:Args) (us:Zf) (vs:List V) (Q:VK) (E:XK),eO k A->Bp P w K mg base A outer s H->sw s fd args (ps.zip us)->aR vs us->sp vs H Q E ->
  zzl76 (model P w) A (.call (.ref f) args) (CR CX outer P w K H s Q E) s
theorem Bp.make{P:bO}{w:World}{K:Za}{mg:Str->Option Value}{base:Heap}{A:Around}{outer:List Env}{s:Shared}{H:Hp}(e:Bp P w K mg base A outer s H)(C:Addr)(us:Zf)(kw:List (Str×Value)):
  Bp P w K mg base (A.under (.builtin "type.__call__" ⟨.ref C::us,kw⟩)) outer s H:=⟨by first|exact e.frames|(simpa[Around.under,Code.envs,Code.isFrame,pushEnvs]using e.frames),e.mod,e.bs,e.bsz,e.funs,e.frf,e.hok,e.bare⟩
section
variable{X:Cx}{J5:Zd}{σ:St}{H:Hp}{s s':Shared}
theorem Inv.env0(I:Inv X J5 σ H s):Bp X.prog X.w X.K X.mg X.base X.A X.stack s H :=
 ⟨I.ok.frames,I.ok.mod,I.bs,aG I.ok.bsz I.sz,I.stack,I.stkFree,I.hok,I.bare⟩
theorem Inv.after{Q:VK}{u:Value}(I:Inv X J5 σ H s)(h:CE X.stack X.prog X.w X.K H s Q u s'):EP X J5 σ Q u s':=by
 obtain⟨v,H',os,bare,un,hok,r,q⟩:=h;obtain⟨hh,g,d,t,os'⟩:=s';obtain rfl:os'=s.os:=os;exact⟨v,H',I.call (h':=hh) (g':=g) (d':=d) (t':=t) (ch:=[]) un hok bare (fun b z=>absurd z (by simp)),r,q⟩
end
def HH(sp:Sp)(dvs:List V)(E:XK)(t:TA):TE:=fun σ H Q=>t σ H fun vs H1=>sp (vs++dvs) H1 Q E
def bZ(C:Addr)(m:Str)(sp:Sp)(dvs:List V)(E:XK)(ta:TE)(t:TA):TE:=fun σ H Q=>ta σ H fun x H1=>∃a dx fs,x=.ref a/\H1 a=some (.ins C dx fs)/\fs.lookup m=none /\
 t σ H1 fun vs H2=>sp (x::(vs++dvs)) H2 Q E
def vv(C:Addr)(sp:Sp)(dvs:List V)(E:XK)(t:TA):TE:=fun σ H Q=>t σ H fun vs H1=>∀x dx,H1 x=none->H1 dx=none->dx≠x ->
 sp (.ref x::(vs++dvs)) (upd (upd H1 dx (.own x)) x (.ins C dx [])) (fun v H2=>v=.non/\Q (.ref x) H2) E
def Binds(K:Za)(fd:kb)(ps:Zb)(ds:Zf):Prop :=
 ∀(s:Shared) (us:Zf),K.In s.heap->(us++ds).length=ps.length->sw s fd ⟨us,[]⟩ (ps.zip (us++ds))
theorem Binds.all{K:Za}{fd:kb}{ps:Zb}(h:∀us:List Value,us.length=ps.length->bindArgs fd ⟨us,[]⟩=pure (ps.zip us)):Binds K fd ps []:=fun s us _ hl=>by
 rw[dY]at hl ⊢;exact .of_eq (h us hl)
def nA(CX:Ee)(X:Cx)(E:XK):Prop:=∀(J5:Zd) (σ:St) (H:Hp) (s:Shared) (e:Value) (s':Shared),Inv X J5 σ H s->CX X.stack H s E e s'->X.xe e s'
section
variable{X:Cx}{CX:Ee}{k:Nat}{f C:Addr}{fd:kb}{ps:Zb}{sp:Sp}{dvs:List V}{ds:Zf}{E:XK}{x m:Str}{p pos J7:Pos}{e o:Expr}{es:List Expr}{ta:TE}{t:TA}
theorem AC{J5:Zd}{σ:St}{H:Hp}{s:Shared}{Q:VK}{us:Zf}{vs:List V}(F:lm X.prog X.w X.K X.mg X.base CX k f fd ps sp)(hr:eO k X.A)(hb:Binds X.K fd ps ds)(hd:aR dvs ds)(hx:nA CX X E)
  (I:Inv X J5 σ H s) (r:aR vs us) (h:sp (vs++dvs) H Q E):wpAny (model X.prog X.w) X.A (call (.ref f) us) (EP X J5 σ Q) X.xe s:=by
 have r2:aR (vs++dvs) (us++ds):=r.append hd;have hl:(us++ds).length=ps.length:=by rw[<-r2.length];exact F.len _ _ _ _ h
 refine wpAny_call (Bu (F.run X.A X.stack s H ⟨us,[]⟩ (us++ds) (vs++dvs) Q E hr I.env0 (hb s us I.kIn hl) r2 h) fun r s' hq=>?_);cases r with
 |error e=>exact hx J5 σ H s e s' I hq
 |ok fl =>
  cases fl with
  |ret u=>exact I.after hq
  |next=>exact jk hq
  |brk=>exact jk hq
  |cont=>exact jk hq
theorem G0(F:lm X.prog X.w X.K X.mg X.base CX k f fd ps sp)(hr:eO k X.A)(hg:Gl X x)(hm:X.mg x=some (.ref f))(hk:gK X.K (.ref f)=true)(hb:Binds X.K fd ps ds)(hd:aR dvs ds)(hx:nA CX X E)
  (ha:PA X (e::es) t) (hdb:(x==("__debug__":Str))=false:=by decide) (he:aF (e::es) X.env=(false,eval e X.env)::aF es X.env:=by rfl) (hpl:(backTo pos (aF es X.env)).any (·.1)=false:=by rfl) :
  PE X (.Call (.Name x p) (e::es) [] pos) (HH sp dvs E t):=by
 intro J5 s σ H Q I h;refine Bt (xH I hg hm ?_ hdb);refine PySem.W.callWith_K (h₀:=X.base) I.ok.mod.kin hk (cz (ha pos J5 s σ H _ I h) fun us s1 ⟨vs,H1,I1,r,q⟩=>⟨I1.kIn,?_⟩) he hpl;exact AC F hr hb hd hx I1 r q
theorem GW{pl:Sem Bool}(he:PE X o ta)(c:CF X.K C)(hm:HD X.K C m f)(F:lm X.prog X.w X.K X.mg X.base CX k f fd ps sp)(hr:eO k X.A)(hb:Binds X.K fd ps ds)(hd:aR dvs ds)(hx:nA CX X E)(ha:PA X (e::es) t)
  (hst:aF (e::es) X.env=(false,eval e X.env)::aF es X.env:=by rfl) (hpl:(backTo pos (aF es X.env)).any (·.1)=false:=by rfl)
  (ht:eval (.Call (.Attribute o m J7) (e::es) [] pos) X.env=(do
   let ov <- eval o X.env
   qK J7.atName
   let(f,first) <- kz [ov] (qI ov m pl)
   vg pos f first (backTo pos (aF (e::es) X.env)) (nO pos (nN [] X.env))):=by rfl) :
  PE X (.Call (.Attribute o m J7) (e::es) [] pos) (bZ C m sp dvs E ta t):=by
 intro J5 s σ H Q I h;refine PySem.W.methodCall_KW (pl:=pl) (cz (he J5 s σ H _ I h) fun u s1 ⟨x,H1,I1,rx,a,dx,fs,ex,ea,l,q⟩=>?_) ht;subst ex;obtain rfl:u=Value.ref a:=rx;refine ul I1 ea c hm l ?_;refine PySem.W.callWith_K (first:=[.ref a]) (h₀:=X.base) I.ok.mod.kin hm.kp (cz (ha pos J5 s1 σ H1 _ I1 q) fun us s2 ⟨vs,H2,I2,r,q2⟩=>⟨I2.kIn,?_⟩) hst hpl
 exact AC (us:=.ref a::us) (vs:=.ref a::vs) F hr hb hd hx I2 (.cons rfl r) q2
theorem E_{pl:Sem Bool}(he:PE X o ta)(c:CF X.K C)(hm:HD X.K C m f)(F:lm X.prog X.w X.K X.mg X.base CX k f fd ps sp)(hr:eO k X.A)(hb:Binds X.K fd ps ds)(hd:aR dvs ds)(hx:nA CX X E)
  (ht:eval (.Call (.Attribute o m J7) [] [] pos) X.env=(do
   let ov <- eval o X.env
   qK J7.atName
   let(f,first) <- kz [ov] (qI ov m pl)
   vg pos f first (backTo pos (aF [] X.env)) (nO pos (nN [] X.env))):=by rfl) :
  PE X (.Call (.Attribute o m J7) [] [] pos) (bZ C m sp dvs E ta bL):=by
 intro J5 s σ H Q I h;refine PySem.W.methodCall_KW (pl:=pl) (cz (he J5 s σ H _ I h) fun u s1 ⟨x,H1,I1,rx,a,dx,fs,ex,ea,l,q⟩=>?_) ht;subst ex;obtain rfl:u=Value.ref a:=rx;refine ul I1 ea c hm l ?_;exact PySem.W.callWith_K0 (first:=[.ref a]) I1.kIn hm.kp (AC (us:=[.ref a]) (vs:=[.ref a]) F hr hb hd hx I1 (.cons rfl .nil) q)
structure Mk(K:Za)(C f:Addr):Prop where
 makes:nQ K C=true
 init:c_ K (.ref C) "__init__"=some (some (.ref f))
 fn:yy K (.ref f)=true
 kp:gK K (.ref C)=true
theorem Ew{J5:Zd}{σ:St}{H:Hp}{s:Shared}{Q:VK}{us:Zf}{vs:List V}(M:Mk X.K C f)(F:lm X.prog X.w X.K X.mg X.base CX k f fd ps sp)(hr:eO (k+1) X.A)(hb:Binds X.K fd ps ds)(hd:aR dvs ds)
  (hx:nA CX X E) (I:Inv X J5 σ H s) (r:aR vs us)
  (h:∀x dx,H x=none->H dx=none->dx≠x->sp (.ref x::(vs++dvs)) (upd (upd H dx (.own x)) x (.ins C dx [])) (fun v H2=>v=.non/\Q (.ref x) H2) E) :
  wpAny (model X.prog X.w) X.A (call (.ref C) us) (EP X J5 σ Q) X.xe s:=by
 have hq:=h (s.heap.objs.size+1) s.heap.objs.size (I.hok.fresh (Nat.le_succ _)) (I.hok.fresh (ax _)) (db (Bw _));have I2:=Inv.made (C:=C) I;have r2:aR (V.ref (s.heap.objs.size+1)::(vs++dvs)) (Value.ref (s.heap.objs.size+1)::(us++ds)):=.cons rfl (r.append hd);have hl:(Value.ref (s.heap.objs.size+1)::us++ds).length=ps.length:=by
  have e:=r2.length;rw[F.len _ _ _ _ hq]at e;exact e.symm
 refine wpAny_call (Fo (f:=f) I.kIn M.makes M.init (beq_iff_eq.mp M.fn) (Bu (F.run _ X.stack _ _ ⟨Value.ref (s.heap.objs.size+1)::us,[]⟩ (Value.ref (s.heap.objs.size+1)::(us++ds)) _ _ E (hr.make C us [])
  (I2.env0.make C us []) (hb _ (Value.ref (s.heap.objs.size+1)::us) I2.kIn hl) r2 hq) fun r s' hq'=>?_))
 cases r with
 |error e=>exact hx J5 σ _ _ e s' I2 hq'
 |ok fl =>
  cases fl with
  |ret u =>
   obtain⟨v,H',I3,rv,ev,q3⟩:=I2.after hq';subst ev;exact⟨rv,⟨V.ref (s.heap.objs.size+1),H',I3,rfl,q3⟩⟩
  |next=>exact jk hq'
  |brk=>exact jk hq'
  |cont=>exact jk hq'
theorem GX(M:Mk X.K C f)(F:lm X.prog X.w X.K X.mg X.base CX k f fd ps sp)(hr:eO (k+1) X.A)(hg:Gl X x)(hm:X.mg x=some (.ref C))(hb:Binds X.K fd ps ds)(hd:aR dvs ds)(hx:nA CX X E)
  (ha:PA X (e::es) t) (hdb:(x==("__debug__":Str))=false:=by decide) (he:aF (e::es) X.env=(false,eval e X.env)::aF es X.env:=by rfl) (hpl:(backTo pos (aF es X.env)).any (·.1)=false:=by rfl) :
  PE X (.Call (.Name x p) (e::es) [] pos) (vv C sp dvs E t):=by
 intro J5 s σ H Q I h;refine Bt (xH I hg hm ?_ hdb);refine PySem.W.callWith_K (h₀:=X.base) I.ok.mod.kin M.kp (cz (ha pos J5 s σ H _ I h) fun us s1 ⟨vs,H1,I1,r,q⟩=>⟨I1.kIn,?_⟩) he hpl;exact Ew M F hr hb hd hx I1 r q
end
structure j4(N P:Zb)(sc:Scope):Prop where
 kind:sc.kind=.function
 co:sc.isCoroutine=false
 gen:sc.isGenerator=false
 nd:N.Nodup
 pre:N.take P.length=P
 par:∀x∈P,sc.names.lookup x=some .local∨sc.names.lookup x=some .cell
 nofree:∀y∈sc.names,y.2≠.free
theorem vX{kindOf:Str->Option ji}{x:Str}:∀{binds:List (Str×Value)}{m:Str->Option Value},(∀v,(x,v)∉binds)->bindL kindOf binds m x=m x
 |[],_,_=>rfl
 | (n,v)::r,m,h=>by
  unfold bindL;rw[vX fun w hw=>h w (dX _ hw)];split
  ·have:x≠n:=by rintro rfl;exact h v dI
   simp[this]
  ·rfl
theorem vZ{kindOf:Str->Option ji}{x:Str}:∀{binds:List (Str×Value)}{m:Str->Option Value},(∀v,(x,v)∉binds)->bindC kindOf binds m x=m x
 |[],_,_=>rfl
 | (n,v)::r,m,h=>by
  unfold bindC;rw[vZ fun w hw=>h w (dX _ hw)];split
  ·rfl
  ·have:x≠n:=by rintro rfl;exact h v dI
   simp[this]
theorem vY{kindOf:Str->Option ji}{x:Str}{v:Value}:∀{P:Zb}{vs:Zf}{i:Nat}{m:Str->Option Value},P.Nodup->P[i]?=some x->vs[i]?=some v->kindOf x=some .local ->
  bindL kindOf (P.zip vs) m x=some v
 |[],_,_,_,_,h,_,_=>by simp at h
 |_::_,[],_,_,_,_,h,_=>by simp at h
 |p::P,w::vs,0,m,nd,h1,h2,hk=>by
  simp at h1 h2;subst h1;subst h2;show bindL kindOf ((p,w)::P.zip vs) m p=_;unfold bindL;rw[vX fun v hv=>(nM.mp nd).1 (Bs hv).1,if_pos hk];simp
 |p::P,w::vs,i+1,m,nd,h1,h2,hk=>by
  show bindL kindOf ((p,w)::P.zip vs) m x=_;unfold bindL;exact vY (i:=i) (nM.mp nd).2 (by simpa using h1) (by simpa using h2) hk
theorem v7{kindOf:Str->Option ji}{x:Str}{v:Value}:∀{P:Zb}{vs:Zf}{i:Nat}{m:Str->Option Value},P.Nodup->P[i]?=some x->vs[i]?=some v->kindOf x≠some .local ->
  bindC kindOf (P.zip vs) m x=some v
 |[],_,_,_,_,h,_,_=>by simp at h
 |_::_,[],_,_,_,_,h,_=>by simp at h
 |p::P,w::vs,0,m,nd,h1,h2,hk=>by
  simp at h1 h2;subst h1;subst h2;show bindC kindOf ((p,w)::P.zip vs) m p=_;unfold bindC;rw[vZ fun v hv=>(nM.mp nd).1 (Bs hv).1,if_neg hk];simp
 |p::P,w::vs,i+1,m,nd,h1,h2,hk=>by
  show bindC kindOf ((p,w)::P.zip vs) m x=_;unfold bindC;exact v7 (i:=i) (nM.mp nd).2 (by simpa using h1) (by simpa using h2) hk
def start(N:Zb)(vs:List V):St:=vs.map some++List.replicate (N.length-vs.length) none
def Bb(CX:Ee)(P:bO)(w:World)(K:Za)(mg:Str->Option Value)(base:Heap)(N:Zb)(qual:Str)(scope:Scope)(f:Addr)(cd:Value)(A:Around)(outer:List Env)(s:Shared)(H:Hp)(E:XK):Cx where
 prog:=P
 w:=w
 K:=K
 mg:=mg
 base:=base
 A:=A.deeper (envOfC qual scope s.heap.objs.size f cd)
 N:=N
 s₀:=s
 H₀:=H
 env:=envOfC qual scope s.heap.objs.size f cd
 outer:=outer
 stack:=envOfC qual scope s.heap.objs.size f cd::outer
 ex:=[]
 calm:=true
 fn:=fun _=>true
 pn:=[]
 xe:=fun e s'=>wpAny (model P w) (A.deeper (envOfC qual scope s.heap.objs.size f cd)) (leaving (envOfC qual scope s.heap.objs.size f cd) e) (fun _ s''=>CX outer H s E e s'') (fun e' s''=>CX outer H s E e' s'') s'
theorem zV{sc:Scope}{n:Nat}{x:Str}(h:sc.names.lookup x=some .cell):∃c,(cellsFrom n sc.names []).lookup x=some c:=by
 have q:=PySem.W.cellsFrom_some sc.names n [] (.inl h);exact Br.mp q
theorem Dt{CX:Ee}{P:bO}{w:World}{K:Za}{mg:Str->Option Value}{base:Heap}{N ps:Zb}{qual:Str}{scope:Scope}{f:Addr}{cd:Value}{A:Around}{outer:List Env}{s s1:Shared}{H:Hp}{E:XK}{us:Zf}{vs:List V}
  (S:j4 N ps scope) (hd:A.handled=none) (e0:Bp P w K mg base A outer s H) (hl:vs.length=ps.length) (r:aR vs us)
  (x:InCallC s s.heap.objs.size (bindL (envOfC qual scope s.heap.objs.size f cd).kindOf (ps.zip us) fun _=>none) (cellsFrom (s.heap.objs.size+1) scope.names []) (bindC (envOfC qual scope s.heap.objs.size f cd).kindOf (ps.zip us) fun _=>none) s1) :
  Inv (Bb CX P w K mg base N qual scope f cd A outer s H E) [] (start N vs) H s1:=by
 have hpl:ps.length<=N.length:=by have:=congrArg List.length S.pre;rw[aM]at this;omega
 obtain⟨h1,tk,rfl,hk⟩:=x.done;have noA:∀b:Addr,b∉(Bb CX P w K mg base N qual scope f cd A outer s H E).ex:=fun b z=>absurd (show b∈([]:Ze)from z) (by simp);refine⟨⟨e0.mod,S.kind,rfl,rfl,ax _,fun y z c h1 h2=>?_,fun y hy=>?_,fun y c _ h=>?_,fun _=>hd,Around.frames_deeper e0.frames,.inr ⟨rfl,rfl⟩,fun b z=>absurd z (noA b),e0.bs,e0.bsz,fun b _ _=>noA b,fun b z=>absurd z (noA b),e0.funs,e0.frf⟩,
  rfl,e0.bare,Un.kept hk,⟨_,x.toInCall.ns,fun i y v h1 h2 h3=>?_⟩,fun y c h=>⟨_,x.cell y c h⟩,e0.hok.fresh (ax _),fun y c h=>?_,fun p hp=>absurd (show p∈([]:Zd)from hp) (by simp),e0.hok.kept hk,?_⟩
 ·exact name_of_addr x.apart (sX h1) (sX h2)
 ·have hy:scope.names.lookup y=some .cell∨scope.names.lookup y=some .free:=hy;rcases hy with hy|hy
  ·exact zV hy
  ·exact absurd rfl (S.nofree _ (sX hy))
 ·exact c6 (x.above y c (sX h))
 ·have hi:i<vs.length:=by
   unfold start at h2;by_cases hi:i<vs.length
   ·exact hi
   ·rw[sW (by simpa using hi)]at h2;rw[List.getElem?_replicate]at h2;split at h2<;>cases h2
  have ha:vs[i]?=some v:=by
   unfold start at h2;rw[sV (by simpa using hi),de]at h2;cases e:vs[i]? with
   |none=>rw[e]at h2;cases h2
   |some a=>rw[e]at h2;cases h2;rfl
  obtain⟨u,hu,rv⟩:=r.get ha;have hp:ps[i]?=some y:=by
   rw[<-S.pre,List.getElem?_take_of_lt (by omega)];exact h1
  have ndP:ps.Nodup:=by rw[<-S.pre];exact S.nd.sublist (List.take_sublist _ _)
  refine⟨u,rv,?_⟩;rcases S.par y (cc hp)with k|k
  ·exact .inl ⟨k,vY ndP hp hu k⟩
  ·obtain⟨c,e⟩:=zV (n:=s.heap.objs.size+1) k;refine .inr ⟨.inl k,c,e,?_⟩;have q:=x.cell y c e;rw[v7 ndP hp hu (by show scope.names.lookup y≠_;rw[k];decide)]at q;exact q
 ·exact e0.hok.fresh (c6 (x.above y c (sX h)))
 ·unfold start;show _=N.length;rw[aE,ai,List.length_replicate];omega
theorem Jr{CX:Ee}{P:bO}{w:World}{K:Za}{mg:Str->Option Value}{base:Heap}{k:Nat}{f:Addr}{name qual:Str}{params:Arguments}{body:List Stmt}{scope:Scope}{dV kV doc pm cdv ct oc:Value}{an od:Option Addr}
  {osl:Array (Option Value)}{N ps:Zb}{sp:Sp}(lk:K.lookup f=some ⟨oc,od,.func (iA name qual params body scope dV kV doc pm an cdv ct),osl⟩) (hcd:mO K cdv qual=true) (S:j4 N ps scope)
  (len:∀vs H Q E,sp vs H Q E->vs.length=ps.length)
  (hbody:∀(A:Around) (outer:List Env) (s:Shared) (H:Hp) (vs:List V) (Q:VK) (E:XK),eO k (A.deeper (envOfC qual scope s.heap.objs.size f cdv))->sp vs H Q E ->
   ∃t,Ae (Bb CX P w K mg base N qual scope f cdv A outer s H E) body t/\t (be Q) (start N vs) H) :
  lm P w K mg base CX (k+1) f (iA name qual params body scope dV kV doc pm an cdv ct) ps sp:=by
 refine⟨len,fun A outer s H args us vs Q E hr e0 hb r hsp=>?_⟩;have hl:=len _ _ _ _ hsp;have KX:K.In s.heap:=e0.mod.kin.keeps fun b o e=>(e0.bs b o e).1;have lim:s.heap.NoLimit:=e0.mod.nolimit.keeps fun b o e=>(e0.bs b o e).1;have hkind:∀y∈ps.zip us,scope.names.lookup y.1=some .local∨(scope.names.lookup y.1=some .cell/\((cellsFrom (s.heap.objs.size+1) scope.names []).lookup y.1).isSome=true):=fun⟨n,v⟩ hy=>by
  rcases S.par n (Bs hy).1 with q|q
  ·exact .inl q
  ·exact .inr ⟨q,PySem.W.cellsFrom_some _ _ _ (.inl q)⟩
 refine codeAny_call_function hr.depth (KX _ _ lk) rfl S.co S.gen rfl (PySem.W.codeRec_of KX hcd) (hb _ _ _ _ ?_);refine wpAny_newFunctionEnv_cells S.kind hkind fun env he s1 x=>?_;subst he;refine⟨lim.keeps x.toInCall.keep,codeAny_func ?_⟩;obtain⟨t,ht,hq⟩:=hbody A outer s H vs Q E (hr.deeper _) hsp;have I:Inv (Bb CX P w K mg base N qual scope f cdv A outer s H E) [] (start N vs) H s1:=Dt S hr.hd e0 hl r x;refine nT (ht [] s1 (start N vs) H _ I hq) (fun fl s' hs=>?_) fun e s' hs=>hs;have fin:∀{σ':St}{H':Hp}{v:V}{u:Value},Inv (Bb CX P w K mg base N qual scope f cdv A outer s H E) [] σ' H' s'->RelV v u->Q v H'->CE outer P w K H s Q u s' :=
  fun{σ' H' v u} J rv q=>⟨v,H',J.os,J.bare,J.base,J.hok,rv,q⟩
 cases fl with
 |ret u =>
  obtain⟨v,σ',H',J,rv,q⟩:=hs;exact fin J rv q
 |next =>
  obtain⟨σ',H',J,q⟩:=hs;exact fin (v:=V.non) (u:=Value.none) J rfl q
 |brk =>
  obtain⟨_,_,_,q⟩:=hs;exact jk q
 |cont =>
  obtain⟨_,_,_,q⟩:=hs;exact jk q
end L2
namespace L2
open PySem PySem.Spec PyProof.Rows
section
variable{X:Cx}{x:Str}{p pos:Pos}{e:Expr}{es:List Expr}{t:TA}{id T:String}{r:List V->Hp->VK->Prop}
def gP(r:List V->Hp->VK->Prop)(t:TA):TE:=fun σ H Q=>t σ H fun vs H1=>r vs H1 Q
theorem zn(hc:fW X (.builtin id) r)(hg:Gl X x)(hm:X.mg x=none)(hv:mr x=some (.builtin id))(ha:PA X (e::es) t)(hn:x≠"__name__":=by decide)(hdb:(x==("__debug__":Str))=false:=by decide)
  (he:aF (e::es) X.env=(false,eval e X.env)::aF es X.env:=by rfl) (hpl:(backTo pos (aF es X.env)).any (·.1)=false:=by rfl):PE X (.Call (.Name x p) (e::es) [] pos) (gP r t):=by
 intro J5 s σ H Q I h;refine Bt (qd I hg hm hv ?_ hn hdb);exact PyProof.Rows.callWith_builtin1 (cz (ha pos J5 s σ H _ I h) fun us s1 ⟨vs,H1,I1,r1,q1⟩=>hc J5 s1 σ H1 vs us Q I1 r1 q1) he hpl
theorem eJ(hc:fW X (.type T) r)(hg:Gl X x)(hm:X.mg x=none)(hv:mr x=some (.type T))(ha:PA X (e::es) t)(hn:x≠"__name__":=by decide)(hdb:(x==("__debug__":Str))=false:=by decide)
  (he:aF (e::es) X.env=(false,eval e X.env)::aF es X.env:=by rfl) (hpl:(backTo pos (aF es X.env)).any (·.1)=false:=by rfl):PE X (.Call (.Name x p) (e::es) [] pos) (gP r t):=by
 intro J5 s σ H Q I h;refine Bt (qd I hg hm hv ?_ hn hdb);exact yC (cz (ha pos J5 s σ H _ I h) fun us s1 ⟨vs,H1,I1,r1,q1⟩=>hc J5 s1 σ H1 vs us Q I1 r1 q1) he hpl
end
end L2
namespace HT
open PySem PyProof.Rows
section
variable{prog:bO}{w:World}{A:Around}{E:Zc}{s:Shared}
theorem cat_tup{t b:Addr}{vs ws:Zf}{Q:Zc}(ht:IsTup s.heap t vs.toArray)(hb:IsTup s.heap b ws.toArray)(hv:vs≠[])
  (h1:ws=[]->Q (.ref t) s) (h2:ws≠[]->Q (.ref s.heap.objs.size) { s with heap:=s.heap.push { cls:=.type "tuple",data:=.seq (vs++ws).toArray } })
  (hsz:vs.length+ws.length<=aj):wpAny (model prog w) A (jj .Add (.ref t) (.ref b)) Q E s:=by
 obtain⟨⟨cls,dd,data,sl⟩,ho,hc,n,hd⟩:=id ht;obtain⟨⟨cls2,dd2,data2,sl2⟩,ho2,hc2,n2,hd2⟩:=id hb;simp only at hc hd hc2 hd2;subst hc hd hc2 hd2;have e:vs.toArray++ws.toArray=(vs++ws).toArray:=by simp
 by_cases hw:ws=[]
 ·exact concat_meets ⟨_,ho,rfl⟩ ⟨_,ho2,rfl⟩ noFill_tuple_add seq_tuple_add PySem.F.slot_tuple_add PySem.F.entry_tuple_add (PySem.F.args_tuple_add_2 _ _)
   (tuple_addW1 t b vs.toArray ws.toArray n n2 dd dd2 sl sl2 (by simpa using hv) (by simp[hw])) ⟨ho,ho2,h1 hw⟩
 ·refine concat_meets ⟨_,ho,rfl⟩ ⟨_,ho2,rfl⟩ noFill_tuple_add seq_tuple_add PySem.F.slot_tuple_add PySem.F.entry_tuple_add (PySem.F.args_tuple_add_2 _ _)
   (tuple_addW2 t b vs.toArray ws.toArray n n2 dd dd2 sl sl2 (by simpa using hv) (by simpa using hw) (by rw[bN,bN];exact hsz)) ⟨ho,ho2,?_⟩
  rw[e];exact h2 hw
def sIx(n d:Nat):Option Int->Nat
 |none=>d
 |some v=>if v<0 then(v+(n:Int)).toNat else min v.toNat n
theorem sIx_none(n d:Nat):sIx n d none=d:=rfl
theorem sIx_nat(n d k:Nat):sIx n d (some (k:Int))=min k n:=by
 show(if(k:Int)<0 then((k:Int)+(n:Int)).toNat else min (k:Int).toNat n)=min k n
 rw[if_neg (by omega),kG]
theorem sIx_le(n d:Nat)(hd:d<=n)(o:Option Int):sIx n d o<=n:=by
 cases o with
 |none=>exact hd
 |some v =>
  show(if v<0 then(v+(n:Int)).toNat else min v.toNat n)<=n
  by_cases hv:v<0
  ·rw[if_pos hv];omega
  ·rw[if_neg hv];exact Nat.min_le_right _ _
theorem clip_eq(v:Int)(n d:Nat):(if v<0 then max (v+(n:Int)) 0 else min v (n:Int))=((sIx n d (some v):Nat):Int):=by
 show(if v<0 then max (v+(n:Int)) 0 else min v (n:Int))=(((if v<0 then(v+(n:Int)).toNat else min v.toNat n):Nat):Int)
 by_cases hv:v<0
 ·simp only[if_pos hv];omega
 ·simp only[if_neg hv];omega
end
end HT
namespace L2
open PySem PySem.Spec PyProof.Rows
abbrev TO:=St->Hp->(Option Int->Hp->Prop)->Prop
def PO(X:Cx)(e:Option Expr)(t:TO):Prop :=
 ∀(J5:Zd) (s:Shared) (σ:St) (H:Hp) (Q:Option Int->Hp->Prop),Inv X J5 σ H s->t σ H Q ->
  wpAny (model X.prog X.w) X.A (evalPart e X.env) (fun u s'=>∃o H',Inv X J5 σ H' s'/\IsPart u o/\Q o H') X.xe s
def eG:TO:=fun _ H Q=>Q none H
def gM(t:TE):TO:=fun σ H Q=>t σ H fun x H1=>∃i,x=.int i/\Q (some i) H1
section
variable{X:Cx}{e:Expr}{te:TE}{lo hi:Option Expr}{tl th:TO}{pos p2:Pos}
theorem fo:PO X none eG:=by
 intro J5 s σ H Q I h;rw[evalPart_none];exact aT ⟨none,H,I,.none,h⟩
theorem c9(h:PE X e te):PO X (some e) (gM te):=by
 intro J5 s σ H Q I hw;rw[evalPart_some];refine cz (h J5 s σ H _ I hw) fun u s1 ⟨x,H1,I1,r1,q1⟩=>?_;obtain⟨i,rfl,q⟩:=q1;obtain⟨t,rfl⟩:=r1;exact⟨some i,H1,I1,.int i t,q⟩
def SlR(X:Cx)(r:V->Option Int->Option Int->Hp->VK->Prop):Prop :=
 ∀(J5:Zd) (s:Shared) (σ:St) (H:Hp) (x:V) (v vl vu:Value) (lo hi:Option Int) (sl:Addr) (Q:VK),Inv X J5 σ H s->RelV x v->s.heap.IsSliceOf sl vl vu .none->IsPart vl lo->IsPart vu hi->r x lo hi H Q ->
  ∃T id,typeLookup (.type T) "__getitem__"=pure (some (.builtin id))/\s.TypeIs v T/\wpAny (model X.prog X.w) X.A (mN v (.ref sl)) (EP X J5 σ Q) X.xe s
def Ap(r:V->Option Int->Option Int->Hp->VK->Prop)(te:TE)(tl th:TO):TE:=fun σ H Q=>te σ H fun x H1=>tl σ H1 fun l H2=>th σ H2 fun u H3=>r x l u H3 Q
theorem cU{r:V->Option Int->Option Int->Hp->VK->Prop}(hr:SlR X r)(he:PE X e te)(hl:PO X lo tl)(hu:PO X hi th):PE X (.Subscript e (.Slice lo hi none p2) pos) (Ap r te tl th):=by
 intro J5 s σ H Q I h;refine Subscript_ (cz (he J5 s σ H _ I h) fun v s1 ⟨x,H1,I1,r1,q1⟩=>?_);refine wpAny_Slice (cz (hl J5 s1 σ H1 _ I1 q1) fun vl s2 ⟨l,H2,I2,pl,q2⟩=>cz (hu J5 s2 σ H2 _ I2 q2) fun vu s3 ⟨u,H3,I3,pu,q3⟩=>?_);rw[evalPart_none];refine aT ?_;have I4:Inv X J5 σ H3 { s3 with heap:=s3.heap.push { cls:=.type "slice",data:=.fields #[vl,vu,.none] } }:=I3.kept (t':=s3.toks) fun b ob q=>bq _ q;obtain⟨T,id,hT,ht,hg⟩:=hr J5 { s3 with heap:=s3.heap.push { cls:=.type "slice",data:=.fields #[vl,vu,.none] } } σ H3 x v vl vu l u s3.heap.objs.size Q I4 r1 (Heap.IsSliceOf.new ..) pl pu q3;show wpAny (model X.prog X.w) X.A (subscriptTail e (.Slice lo hi none p2) v (.ref s3.heap.objs.size)) (EP X J5 σ Q) X.xe { s3 with heap:=s3.heap.push { cls:=.type "slice",data:=.fields #[vl,vu,.none] } };exact tail_any (ops:=[.ref s3.heap.objs.size,v]) ht hT hg (by with_unfolding_all rfl)
def fU(xs:List V)(lo hi:Option Int):List V:=(xs.drop (HT.sIx xs.length 0 lo)).take (HT.sIx xs.length xs.length hi-HT.sIx xs.length 0 lo)
theorem zR(xs:List V)(lo hi:Option Int):(fU xs lo hi).length<=xs.length:=by
 unfold fU;rw[aM,fA];omega
def Je(K:Za):R2:=fun x y H Q=>∃a b xs ys,x=.ref a/\y=.ref b/\bE K H a xs/\bE K H b ys/\xs≠[]/\xs.length+ys.length<=aj /\
 (ys=[]->Q (.ref a) H)/\(ys≠[]->∀p,H p=none->Q (.ref p) (upd H p (.tup (xs++ys))))
theorem aR.nil_iff{xs:List V}{us:Zf}(r:aR xs us):us=[]↔xs=[]:=by
 cases r with
 |nil=>simp
 |cons _ _=>simp
theorem G6:lg X (jj .Add) (Je X.K):=by
 intro J5 s σ H x y v u Q I rx ry h;obtain⟨a,b,xs,ys,rfl,rfl,ha,hb,hx,hz,q1,q2⟩:=h;cases rx;cases ry;obtain⟨its,r1,p1,_⟩:=I.tuple ha;obtain⟨its2,r2,p2,_⟩:=I.tuple hb;refine HT.cat_tup p1 p2 (fun z=>hx (r1.nil_iff.mp z)) (fun z=>⟨.ref a,H,I,rfl,q1 (r2.nil_iff.mp z)⟩) (fun z=>?_) (by rw[<-r1.length,<-r2.length];exact hz);refine⟨.ref s.heap.objs.size,_,I.laid (t':=s.toks) (o:=.tup (xs++ys)) (fun b ob q=>bq _ q) (ax _) ?_,rfl,q2 (fun w=>z (r2.nil_iff.mpr w)) _ (I.hok.fresh (ax _))⟩;exact⟨by rw[aE];exact hz,_,r1.append r2,IsTup.new _ _⟩
end
end L2
namespace L2
open PySem PySem.Spec PyProof.Rows
def Ge(n:Nat)(i:Int):Option Nat:=if 0<=i then(if i<n then some i.toNat else none)else if -(n:Int)<=i then some (i+n).toNat else none
def yb{α:Type}(xs:List α)(i:Int):Option α:=(Ge xs.length i).bind fun j=>xs[j]?
theorem B_{n:Nat}{i:Int}{j:Nat}(h:Ge n i=some j):seqIndex? i n=some j/\j<n/\-(n:Int)<=i/\i<n:=by
 unfold Ge at h;by_cases h0:0<=i
 ·rw[if_pos h0]at h;by_cases h1:i<n
  ·rw[if_pos h1]at h;have e:i.toNat=j:=ff h;exact⟨by rw[seqIndex_of h0 h1,e],by omega,by omega,h1⟩
  ·rw[if_neg h1]at h;cases h
 ·rw[if_neg h0]at h;by_cases h1:-(n:Int)<=i
  ·rw[if_pos h1]at h;have e:(i+n).toNat=j:=ff h;exact⟨by rw[seqIndex_neg (by omega) h1,e],by omega,h1,by omega⟩
  ·rw[if_neg h1]at h;cases h
theorem ya{α:Type}{xs:List α}{i:Int}{v:α}(h:yb xs i=some v):∃j,seqIndex? i xs.length=some j/\xs[j]?=some v/\j<xs.length/\-(xs.length:Int)<=i/\i<xs.length:=by
 unfold yb at h;cases e:Ge xs.length i with
 |none=>rw[e]at h;cases h
 |some j =>
  rw[e]at h;obtain⟨h1,h2,h3,h4⟩:=B_ e;exact⟨j,h1,h,h2,h3,h4⟩
theorem aX{α:Type}{xs:List α}{j:Nat}{v:α}(h:xs[j]?=some v):yb xs (j:Int)=some v:=by
 have hj:j<xs.length:=(bY.mp h).1;have e:Ge xs.length (j:Int)=some j:=by
  unfold Ge;rw[if_pos (by omega),if_pos (by omega)];simp
 unfold yb;rw[e];exact h
theorem FV{α:Type}(xs:List α)(v:α):yb (xs++[v]) (-1)=some v:=by
 have hl:(xs++[v]).length=xs.length+1:=by simp
 have e:Ge (xs++[v]).length (-1)=some xs.length:=by
  unfold Ge;rw[hl,if_neg (by decide),if_pos (by omega)];congr 1;omega
 unfold yb;rw[e];show(xs++[v])[xs.length]?=some v;simp
def HA(b:Expr):Prop:=∀o i,wP b false o i=operate [o,i] (mN o i)
def HE(X:Cx)(r:R2):Prop :=
 ∀(value slice:Expr) (J5:Zd) (s:Shared) (σ:St) (H:Hp) (x y:V) (v u:Value) (Q:VK),Inv X J5 σ H s->RelV x v->RelV y u->r x y H Q ->
  wP slice false v u=operate [v,u] (mN v u)->wpAny (model X.prog X.w) X.A (subscriptTail value slice v u) (EP X J5 σ Q) X.xe s
def MtR(X:Cx)(id:String)(r:V->List V->Hp->VK->Prop):Prop :=
 ∀(J5:Zd) (s:Shared) (σ:St) (H:Hp) (x:V) (xs:List V) (v:Value) (us:Zf) (Q:VK),Inv X J5 σ H s->RelV x v->aR xs us->r x xs H Q ->
  wpAny (model X.prog X.w) X.A (call (.builtin id) (v::us)) (EP X J5 σ Q) X.xe s
section
variable{X:Cx}{a b:Expr}{ta tb:TE}{pos:Pos}
theorem HE.or{r r':R2}(h:HE X r)(h':HE X r'):HE X (fun x y H Q=>r x y H Q∨r' x y H Q):=by
 intro value slice J5 s σ H x y v u Q I rx ry q hs;rcases q with q|q
 ·exact h value slice J5 s σ H x y v u Q I rx ry q hs
 ·exact h' value slice J5 s σ H x y v u Q I rx ry q hs
theorem BV{r:R2}(hr:HE X r)(ha:PE X a ta)(hb:PE X b tb)(hs:HA b):PE X (.Subscript a b pos) (aD r ta tb):=by
 intro J5 s σ H Q I h;exact Subscript_ (IL ha hb I h fun v u s2 x y H2 I2 rx ry q=>hr a b J5 s2 σ H2 x y v u Q I2 rx ry q (hs _ _))
def d7(K:Za):R2:=fun x y H Q=>∃p xs i v,x=.ref p/\y=.int i/\az K H p xs/\yb xs i=some v/\Q v H
def hV(K:Za):R2:=fun x y H Q=>∃p xs i v,x=.ref p/\y=.int i/\bE K H p xs/\yb xs i=some v/\Q v H
def EO:R2:=fun x y H Q=>∃z i c,x=.str z/\y=.int i/\z.length<=aj/\yb z.cps.toList i=some c/\Q (.str ⟨#[c]⟩) H
theorem B9:HE X (d7 X.K):=by
 intro value slice J5 s σ H x y v u Q I rx ry h hs;obtain⟨p,xs,i,z,rfl,rfl,hq,he,q⟩:=h;cases rx;obtain⟨t,rfl⟩:=ry;obtain⟨its,r,pl,hz⟩:=I.list hq;obtain⟨j,h1,h2,h3,h4,h5⟩:=ya he;obtain⟨w,ew,rw'⟩:=r.get h2;have hl:=r.length;have hn:=qb;have fin:EP X J5 σ Q w s:=⟨z,H,I,rw',q⟩;by_cases h0:0<=i
 ·have hj:i.toNat=j:=by
   rw[seqIndex_of h0 h5]at h1;exact ff h1
  exact item_listR pl.isList h0 (by omega) (by rw[hj];simpa using ew) fin hs
 ·have hj:(i+(its.toArray.size:Int)).toNat=j:=by
   rw[seqIndex_neg (by omega) h4]at h1;rw[bN,<-hl];exact ff h1
  exact subscriptTail_builtinR (x:=w) pl.isList.typeIs slot_list_getitem.lookup
   (wpAny_getItem_list_neg (Q:=fun r s'=>r=w/\EP X J5 σ Q r s') pl.isList (by omega) (by rw[bN]<;>omega) (by omega) (by rw[hj];simpa using ew) ⟨rfl,fin⟩) hs
theorem Fu:HE X (hV X.K):=by
 intro value slice J5 s σ H x y v u Q I rx ry h hs;obtain⟨p,xs,i,z,rfl,rfl,hq,he,q⟩:=h;cases rx;obtain⟨t,rfl⟩:=ry;obtain⟨its,r,pl,hz⟩:=I.tuple hq;obtain⟨j,h1,h2,h3,h4,h5⟩:=ya he;obtain⟨w,ew,rw'⟩:=r.get h2;have hl:=r.length;have hn:=qb;have fin:EP X J5 σ Q w s:=⟨z,H,I,rw',q⟩;exact subscriptTail_builtinR (x:=w) pl.typeIs slot_tuple_getitem.lookup
  (getItem_tuple (j:=j) (Q:=fun r s'=>r=w/\EP X J5 σ Q r s') pl (by omega) (by omega) (by rw[bN,<-hl];exact h1) (by simpa using ew) ⟨rfl,fin⟩) hs
theorem Fv:HE X EO:=by
 intro value slice J5 s σ H x y v u Q I rx ry h hs;obtain⟨z,i,c,rfl,rfl,hz,he,q⟩:=h;obtain⟨t,rfl⟩:=rx;obtain⟨t',rfl⟩:=ry;obtain⟨j,h1,h2,h3,h4,h5⟩:=ya he;have hl:z.cps.toList.length=z.length:=by simp[Str.length]
 rw[hl]at h1 h4 h5;have hn:=qb;exact tail_any (typeIs_str s z t) slot_str_getitem.lookup (getItem_str (c:=c) (by
  have e1:decide (i < -(2 ^ 63:Int))=false:=zzr0 (by omega);have e2:decide (i ≥ 2 ^ 63)=false:=zzr0 (by omega);rw[e1,e2,Bool.or_false]) (by rw[h1];simpa using h2) ⟨.str ⟨#[c]⟩,H,I.tok _,⟨_,rfl⟩,q⟩) hs
def rL(K:Za):R2:=fun x y H Q=>d7 K x y H Q∨hV K x y H Q∨EO x y H Q
theorem IE:HE X (rL X.K):=B9.or (Fu.or Fv)
theorem AT(its:Zf)(n j:Nat)(u:Value):sU (·.setIfInBounds j u) { cls:=.type "list",data:=.seq its.toArray n }={ cls:=.type "list",data:=.seq (its.set j u).toArray n }:=by
 simp[sU]
theorem Inv.lst{J5:Zd}{σ:St}{H:Hp}{s:Shared}{p:Addr}{xs:List V}(I:Inv X J5 σ H s)(h:H p=some (.lst xs)):
  ∃(its:Zf) (n:Nat),aR xs its/\s.heap.get? p=some { cls:=.type "list",data:=.seq its.toArray n }/\xs.length<=aj:=by
 obtain⟨z,its,n,r,e⟩:=I.hok p _ h;exact⟨its,n,r,e,z⟩
theorem Inv.lstUpd{J5:Zd}{σ:St}{H:Hp}{s:Shared}{p:Addr}{xs ys:List V}{its its':Zf}{n n':Nat}{f:Obj->Obj}(I:Inv X J5 σ H s)(h:H p=some (.lst xs))
  (ho:s.heap.get? p=some { cls:=.type "list",data:=.seq its.toArray n }) (hf:f { cls:=.type "list",data:=.seq its.toArray n }={ cls:=.type "list",data:=.seq its'.toArray n' }) (r:aR ys its') (hz:ys.length<=aj) (t:Nat) :
  Inv X J5 σ (upd H p (.lst ys)) { s with heap:=s.heap.update p f,toks:=t }:=by
 have e:(s.heap.update p f).get? p=some { cls:=.type "list",data:=.seq its'.toArray n' }:=by
  rw[wO f ho (by rw[hf]<;>rfl),hf]
 refine I.write (x:=p) (e:=p) (by rw[h];trivial) (.inl rfl) (fun b u hb q=>(Heap.get?_update_other _ _ (ix hb)).trans q) ⟨_,e⟩ ?_;exact⟨hz,its',n',r,e⟩
def tM:V->V->V->Hp->(Hp->Prop)->Prop:=fun o i v H Q=>∃p xs k j,o=.ref p/\i=.int k/\H p=some (.lst xs)/\Ge xs.length k=some j/\Q (upd H p (.lst (xs.set j v)))
theorem kQ:Ju X tM:=by
 intro J5 s σ H o i v ov iv u Q I ro ri rv h;obtain⟨p,xs,k,j,rfl,rfl,hp,hj,q⟩:=h;cases ro;obtain⟨t,rfl⟩:=ri;obtain⟨its,n,r,ho,hz⟩:=I.lst hp;obtain⟨h1,h2,h3,h4⟩:=B_ hj;have hl:=r.length;have hn:=qb;have I':Inv X J5 σ (upd H p (.lst (xs.set j v))) { s with heap:=s.heap.update p (sU (·.setIfInBounds j u)) } :=
  I.lstUpd hp ho (AT its n j u) (r.set rv j) (by rw[List.length_set];exact hz) s.toks
 by_cases h0:0<=k
 ·have hk:k.toNat=j:=by
   rw[seqIndex_of h0 h4]at h1;exact ff h1
  exact PySem.W.ki_setAt ho h0 (by omega) (by rw[bN,<-hl];exact h4) (by rw[hk];exact⟨_,I',q⟩)
 ·have hk:(k+(its.toArray.size:Int)).toNat=j:=by
   rw[seqIndex_neg (by omega) h3]at h1;rw[bN,<-hl];exact ff h1
  exact PySem.W.ki_setBack ho (by omega) (by rw[bN,<-hl];exact h3) (by omega) (by rw[hk];exact⟨_,I',q⟩)
theorem xu(lo hi:Option Int)(n:Nat):(mM lo hi none n).1=((HT.sIx n 0 lo:Nat):Int)/\(mM lo hi none n).2.1=((HT.sIx n n hi:Nat):Int)/\(mM lo hi none n).2.2=1:=by
 refine⟨?_,?_,rfl⟩
 ·cases lo with
  |none=>simp[mM,HT.sIx]
  |some i =>
   simp only[mM,HT.sIx,Option.getD_none,show(1:Int) > 0 by decide,if_true];by_cases h:i<0
   ·simp only[h,if_true]<;>omega
   ·simp only[h,if_false]<;>omega
 ·cases hi with
  |none=>simp[mM,HT.sIx]
  |some i =>
   simp only[mM,HT.sIx,Option.getD_none,show(1:Int) > 0 by decide,if_true];by_cases h:i<0
   ·simp only[h,if_true]<;>omega
   ·simp only[h,if_false]<;>omega
theorem uY(its:Zf)(lo hi:Option Int):slicePick its.toArray lo hi none=((its.drop (HT.sIx its.length 0 lo)).take (HT.sIx its.length its.length hi-HT.sIx its.length 0 lo)).toArray:=by
 obtain⟨h1,h2,h3⟩:=xu lo hi its.toArray.size;unfold slicePick;rw[h1,h2,h3];simp only[sliceRange_one,pick_run,bN]<;>rfl
def rK(K:Za):V->Option Int->Option Int->Hp->VK->Prop:=fun x lo hi H Q=>∃a xs,x=.ref a/\az K H a xs/\∀p,H p=none->Q (.ref p) (upd H p (.lst (fU xs lo hi)))
theorem fN:SlR X (rK X.K):=by
 intro J5 s σ H x v vl vu lo hi sl Q I rx hs pl pu h;obtain⟨a,xs,rfl,hx,q⟩:=h;cases rx;obtain⟨its,r,ht,hz⟩:=I.list hx;have hlen:=r.length;refine⟨"list",_,slot_list_getitem.lookup,ht.isList.typeIs,?_⟩;refine wpAny_getItem_list_slice ht.isList hs pl pu .none (by simp) ?_ (by rw[bN]<;>omega);rw[uY,<-hlen];refine⟨.ref s.heap.objs.size,_,I.laid (t':=s.toks) (o:=.lst (fU xs lo hi)) (fun b ob q=>bq _ q) (ax _) ?_,rfl,q _ (I.hok.fresh (ax _))⟩;exact⟨aG (zR xs lo hi) hz,_,0,(r.drop (HT.sIx xs.length 0 lo)).take (HT.sIx xs.length xs.length hi-HT.sIx xs.length 0 lo),da _ rfl⟩
theorem xY:fW X (.builtin "len") (fun xs H Q=>∃p ys,xs=[.ref p]/\(az X.K H p ys∨bE X.K H p ys)/\Q (.int ys.length) H):=by
 intro J5 s σ H xs us Q I r h;obtain⟨p,ys,rfl,hq,q⟩:=h;obtain⟨u,rfl,rx⟩:=vals1 r;cases rx;have hn:=qb;rcases hq with hq|hq
 ·obtain⟨its,r',pl,hz⟩:=I.list hq;have hlen:=r'.length;exact Calls.call_len_list pl.isList (by simp only[bN]<;>omega) ⟨.int ys.length,H,I.tok _,⟨s.toks+1,by rw[bN,hlen]⟩,q⟩
 ·obtain⟨its,r',pl,hz⟩:=I.tuple hq;have hlen:=r'.length;exact len_tuple pl (by simp only[bN]<;>omega) ⟨.int ys.length,H,I.tok _,⟨s.toks+1,by rw[bN,hlen]⟩,q⟩
theorem xX:fW X (.builtin "len") (fun xs H Q=>∃z,xs=[.str z]/\z.length<=aj/\Q (.int z.length) H):=by
 intro J5 s σ H xs us Q I r h;obtain⟨z,rfl,hz,q⟩:=h;obtain⟨u,rfl,t,rfl⟩:=vals1 r;have hn:=qb;exact len_str (by omega) ⟨.int z.length,H,I.tok _,⟨_,rfl⟩,q⟩
theorem fW.or{f:Value}{r r':List V->Hp->VK->Prop}(h:fW X f r)(h':fW X f r'):fW X f (fun xs H Q=>r xs H Q∨r' xs H Q):=by
 intro J5 s σ H xs us Q I rs q;rcases q with q|q
 ·exact h J5 s σ H xs us Q I rs q
 ·exact h' J5 s σ H xs us Q I rs q
theorem xW:fW X (.type "list") (fun xs H Q=>∃p ys,xs=[.ref p]/\(az X.K H p ys∨bE X.K H p ys)/\∀l,H l=none->Q (.ref l) (upd H l (.lst ys))):=by
 intro J5 s σ H xs us Q I r h;obtain⟨p,ys,rfl,hq,q⟩:=h;obtain⟨u,rfl,rx⟩:=vals1 r;cases rx;have fin:∀(its:Zf),aR ys its->ys.length<=aj->∀(h':Heap) (c':Nat),(∀b o',s.heap.get? b=some o'->h'.get? b=some o') ->
   h'.get? s.heap.objs.size=some { cls:=.type "list",dict:=none,data:=.seq its.toArray c',slots:=#[] }->EP X J5 σ Q (.ref s.heap.objs.size) { s with heap:=h' }:=fun its r' hz h' c' kp e =>
  ⟨.ref s.heap.objs.size,_,I.laid (t':=s.toks) kp (ax _) (show cB X.prog X.w X.K _ h' _ (.lst ys)from⟨hz,its,c',r',e⟩),rfl,q _ (I.hok.fresh (ax _))⟩
 rcases hq with hq|hq
 ·obtain⟨its,r',pl,hz⟩:=I.list hq;have hlen:=r'.length;obtain⟨o,ho,hc,n,hd⟩:=pl.isList;exact call_list_seq p (.inl rfl) ho hc hd (fun h' c' kp e=>fin its r' hz h' c' kp e) (by simp only[bN]<;>omega)
 ·obtain⟨its,r',pl,hz⟩:=I.tuple hq;have hlen:=r'.length;obtain⟨o,ho,hc,n,hd⟩:=pl;exact call_list_seq p (.inr rfl) ho hc hd (fun h' c' kp e=>fin its r' hz h' c' kp e) (by simp only[bN]<;>omega)
theorem cY:fW X (.type "tuple") (fun xs H Q=>∃p ys,xs=[.ref p]/\((az X.K H p ys/\∀l,H l=none->Q (.ref l) (upd H l (.tup ys)))∨(bE X.K H p ys/\Q (.ref p) H))):=by
 intro J5 s σ H xs us Q I r h;obtain⟨p,ys,rfl,h⟩:=h;obtain⟨u,rfl,rx⟩:=vals1 r;cases rx;rcases h with⟨hq,q⟩|⟨hq,q⟩
 ·obtain⟨its,r',pl,hz⟩:=I.list hq;have hlen:=r'.length;refine call_tuple_list pl.isList (fun h' kp=>?_) (by simp only[bN]<;>omega);have I1:Inv X J5 σ H { s with heap:=h' }:=I.kept (t':=s.toks) kp;have I2:Inv X J5 σ (upd H h'.objs.size (.tup ys)) { s with heap:=h'.push { cls:=.type "tuple",data:=.seq its.toArray } } :=
   I1.laid (t':=s.toks) (fun b o e=>bq _ e) (ax _) (show cB X.prog X.w X.K _ _ _ (.tup ys)from⟨hz,its,r',IsTup.new _ _⟩)
  exact⟨.ref h'.objs.size,_,I2,rfl,q _ (I1.hok.fresh (ax _))⟩
 ·obtain⟨its,r',pl,hz⟩:=I.tuple hq;exact call_tuple_same pl ⟨.ref p,H,I,rfl,q⟩
def tyV(K:Za)(T:String)(x:V)(H:Hp):Prop:=match x with
 |.str _=>T="str"
 |.int _=>T="int"
 |.ref p=>(T="list"/\∃xs,az K H p xs)∨(T="tuple"/\∃o,K.lookup p=some o/\o.cls=.type "tuple"/\o.dict=none) ∨
   (T="dict"/\((∃kvs,H p=some (.dK kvs))∨∃kvs,H p=some (.dT kvs)))∨(T="set"/\∃S n,H p=some (.set S n))
 |_=>False
theorem El{J5:Zd}{σ:St}{H:Hp}{s:Shared}{T:String}{x:V}{v:Value}(I:Inv X J5 σ H s)(r:RelV x v)(ty:tyV X.K T x H):
  s.TypeIs v T/\∀a,v=.ref a->∃ob,s.heap.get? a=some ob/\ob.dict=none:=by
 cases x with
 |str z =>
  obtain⟨t,rfl⟩:=r;cases(show T="str" from ty);exact⟨typeIs_str s z t,fun _ e=>nomatch e⟩
 |int i =>
  obtain⟨t,rfl⟩:=r;cases(show T="int" from ty);exact⟨typeIs_int s i t,fun _ e=>nomatch e⟩
 |ref p =>
  cases r;rcases ty with⟨rfl,xs,hq⟩|⟨rfl,o,hk,hc,hd⟩|⟨rfl,hk⟩|⟨rfl,S,n,hk⟩
  ·obtain⟨its,_,pl,_⟩:=I.list hq;refine⟨pl.isList.typeIs,fun a e=>?_⟩;cases e;obtain⟨o,n,e,c,hd,_⟩:=pl;exact⟨o,e,hd⟩
  ·refine⟨⟨o,I.kIn p o hk,hc⟩,fun a e=>?_⟩;cases e;exact⟨o,I.kIn _ o hk,hd⟩
  ·have z:∃o,s.heap.get? p=some o/\o.ExactDict:=by
    rcases hk with⟨kvs,hk⟩|⟨kvs,hk⟩
    ·obtain⟨_,_,_,_,o,_,_,e,ex,_⟩:=I.hok p _ hk;exact⟨o,e,ex⟩
    ·obtain⟨_,_,_,_,o,_,_,e,ex,_⟩:=I.hok p _ hk;exact⟨o,e,ex⟩
   obtain⟨o,e,ex⟩:=z;refine⟨⟨o,e,ex.1⟩,fun a e2=>?_⟩;cases e2;exact⟨o,e,ex.2.1⟩
  ·obtain⟨o,_,_,_,e,ex,_⟩:=I.hok p _ hk;refine⟨⟨o,e,ex.1⟩,fun a e2=>?_⟩;cases e2;exact⟨o,e,ex.2.1⟩
 |_=>exact jk ty
def Gq(K:Za)(T:String)(r:V->List V->Hp->VK->Prop)(to:TE):TE:=fun σ H Q=>to σ H fun x H1=>tyV K T x H1/\r x [] H1 Q
def Ad(K:Za)(T:String)(r:V->List V->Hp->VK->Prop)(to:TE)(t:TA):TE:=fun σ H Q=>to σ H fun x H1=>tyV K T x H1/\t σ H1 fun xs H2=>r x xs H2 Q
variable{o e:Expr}{es:List Expr}{to:TE}{t:TA}{name:Str}{J7 J6:Pos}{T id:String}{r:V->List V->Hp->VK->Prop}
theorem AN(pa:PlainAttrs T)(slot:Slot T name id)(hty:typeOf (.builtin id)=pure (.type "method_descriptor"))(hm:MtR X id r)(ho:PE X o to)
  (hbase:vh o name X.env (eval o X.env)=eval o X.env:=by rfl) (hline:(J7.endLine==J6.line)=true:=by rfl):PE X (.Call (.Attribute o name J7) [] [] J6) (Gq X.K T r to):=by
 intro J5 s σ H Q I h;refine wpAny_Call_method0_late hbase hline (cz (ho J5 s σ H _ I h) fun v s1 ⟨x,H1,I1,r1,ty,q1⟩=>?_);obtain⟨h1,h2⟩:=El I1 r1 ty;exact⟨T,id,pa,slot,hty,h1,h2,wN rfl (PySem.evalArgs_none (hm J5 s1 σ H1 x [] v [] Q I1 r1 .nil q1))⟩
theorem iJ(pa:PlainAttrs T)(slot:Slot T name id)(hty:typeOf (.builtin id)=pure (.type "method_descriptor"))(hm:MtR X id r)(ho:PE X o to)(ha:PA X (e::es) t)
  (hbase:vh o name X.env (eval o X.env)=eval o X.env:=by rfl)
  (hfew:((backTo J6 (aF (e::es) X.env)).all (fun x=>!x.1) && (nO J6 (nN [] X.env)).all (fun x=>x.1.isSome)
   && decide ((e::es).length+([]:List pF).length+(if([]:List pF).isEmpty then 0 else 1)<30))=true:=by rfl)
  (hline:(J7.endLine==J6.line)=true:=by rfl) (hs:aF (e::es) X.env=(false,eval e X.env)::aF es X.env:=by rfl) (hplain:(backTo J6 (aF es X.env)).any (·.1)=false:=by rfl) :
  PE X (.Call (.Attribute o name J7) (e::es) [] J6) (Ad X.K T r to t):=by
 intro J5 s σ H Q I h;refine wpAny_Call_method_late hbase hfew hline rfl (cz (ho J5 s σ H _ I h) fun v s1 ⟨x,H1,I1,r1,ty,q1⟩=>?_);obtain⟨h1,h2⟩:=El I1 r1 ty;refine⟨T,id,pa,slot,hty,h1,h2,?_⟩;have hA:=ha J6 J5 s1 σ H1 _ I1 q1;rw[hs]at hA ⊢;refine wN (by show(false || (backTo J6 (aF es X.env)).any (·.1))=false;rw[hplain]<;>rfl) (Calls.evalArgs_plain ?_);exact cz hA fun us s2 ⟨vs,H2,I2,r2,q2⟩=>hm J5 s2 σ H2 x vs v us Q I2 r1 r2 q2
end
end L2
namespace L2
open PySem PySem.Spec PyProof.Rows
def IW(X:Cx)(id:String)(r:V->List V->Hp->VK->Prop):Prop :=
 ∀(J5:Zd) (s:Shared) (σ:St) (H:Hp) (x:V) (xs:List V) (v:Value) (us:Zf) (Q:VK),Inv X J5 σ H s->RelV x v->aR xs us->r x xs H Q ->
  wpAny (model X.prog X.w) X.A (call (.builtin id) (v::us)) (EP X J5 σ Q) X.xe s
theorem aR.one:∀{x:V}{us:Zf},aR [x] us->∃u,us=[u]/\RelV x u
 |_,_,.cons r .nil=>⟨_,rfl,r⟩
theorem aR.two:∀{x y:V}{us:Zf},aR [x,y] us->∃u v,us=[u,v]/\RelV x u/\RelV y v
 |_,_,_,.cons r (.cons q .nil)=>⟨_,_,rfl,r,q⟩
theorem aR.zero:∀{us:Zf},aR [] us->us=[]
 |_,.nil=>rfl
theorem aR.dropLast{xs:List V}{us:Zf}(h:aR xs us):aR xs.dropLast us.dropLast:=by
 induction h with
 |nil=>exact .nil
 |cons r t ih =>
  cases t with
  |nil=>exact .nil
  |cons q t'=>exact .cons r ih
theorem aR.reverse{xs:List V}{us:Zf}(h:aR xs us):aR xs.reverse us.reverse:=by
 induction h with
 |nil=>exact .nil
 |cons r t ih=>rw[pE,pE];exact aR.append ih (.cons r .nil)
theorem A8{α:Type}(l:List α):l.eraseIdx (l.length-1)=l.dropLast:=by
 induction l with
 |nil=>rfl
 |cons a r ih =>
  cases r with
  |nil=>rfl
  |cons b r =>
   have e:(a::b::r).length-1=((b::r).length-1)+1:=by
    have h1:(a::b::r).length=r.length+2:=rfl;have h2:(b::r).length=r.length+1:=rfl;omega
   rw[e,List.eraseIdx_cons_succ,ih]
   all_goals rfl
section
variable{X:Cx}{J5:Zd}{σ:St}{H:Hp}{s:Shared}{l b:Addr}{xs ys zs:List V}
theorem Inv.lset{its its':Zf}{n:Nat}{f:Array Value->Array Value}{t':Nat}(I:Inv X J5 σ H s)(hH:H l=some (.lst xs))
  (e:s.heap.get? l=some { cls:=.type "list",data:=.seq its.toArray n }) (hf:f its.toArray=its'.toArray) (hv:aR ys its') (hz:ys.length<=aj) :
  Inv X J5 σ (upd H l (.lst ys)) { s with heap:=s.heap.update l (sU f),toks:=t' }:=by
 have q:=PySem.IsL.update e f;rw[hf]at q;refine I.write (x:=l) (e:=l) (by rw[hH];exact trivial) (.inl rfl) (fun b' u hb hu=>(Heap.get?_update_other s.heap (sU f) (ix hb)).trans hu) ⟨_,q⟩ ?_;exact⟨hz,its',_,hv,q⟩
theorem Inv.lnew{its:Zf}{t':Nat}(I:Inv X J5 σ H s)(hv:aR ys its)(hz:ys.length<=aj):
  Inv X J5 σ (upd H s.heap.objs.size (.lst ys)) { s with heap:=s.heap.push { cls:=.type "list",data:=.seq its.toArray },toks:=t' } :=
 I.laid (fun _ _ q=>bq _ q) (ax _) ⟨hz,its,0,hv,da _ rfl⟩
theorem Inv.fresh(I:Inv X J5 σ H s):H s.heap.objs.size=none:=I.hok.fresh (ax _)
theorem Inv.lstM(I:Inv X J5 σ H s)(hH:H l=some (.lst xs)):xs.length<=aj/\∃(its:Zf) (n:Nat),aR xs its/\xs.length=its.length/\s.heap.get? l=some { cls:=.type "list",data:=.seq its.toArray n }:=by
 obtain⟨z,its,n,r,e⟩:=I.hok l _ hH;exact⟨z,its,n,r,r.length,e⟩
theorem Fi{n:Nat}(h:n<=aj):cE.List.listTooLong n=false:=by
 unfold cE.List.listTooLong;exact zzr0 (by omega)
end
section
variable{X:Cx}
def eI:V->List V->Hp->VK->Prop:=fun x vs H Q=>∃l xs y,x=.ref l/\vs=[y]/\H l=some (.lst xs)/\xs.length<aj/\Q .non (upd H l (.lst (xs++[y])))
theorem cF:IW X "list.append" eI:=by
 intro J5 s σ H x vs v us Q I rx rv h;obtain⟨l,xs,y,rfl,rfl,hH,hz,q⟩:=h;cases rx;obtain⟨u,rfl,ru⟩:=rv.one;obtain⟨z,its,n,r,hl,e⟩:=I.lstM hH;refine sT F.slot_list_append ⟨_,e,rfl⟩ F.entry_list_append (F.args_list_append_2 _ _) (PySem.list_append l its.toArray n u (by rw[bN];omega)) ⟨e,?_⟩;refine⟨.non,_,I.lset (its':=its++[u]) hH e (by simp) (r.append (.cons ru .nil)) ?_,rfl,q⟩;rw[aE,List.length_singleton];omega
def BO:V->List V->Hp->VK->Prop:=fun x vs H Q=>∃l b xs zs,x=.ref l/\vs=[.ref b]/\H l=some (.lst xs)/\H b=some (.lst zs)/\xs.length+zs.length<=aj/\Q .non (upd H l (.lst (xs++zs)))
theorem Do:IW X "list.extend" BO:=by
 intro J5 s σ H x vs v us Q I rx rv h;obtain⟨l,b,xs,zs,rfl,rfl,hH,hB,hz,q⟩:=h;cases rx;obtain⟨u,rfl,ru⟩:=rv.one;cases ru;obtain⟨z,its,n,r,hl,e⟩:=I.lstM hH;obtain⟨z2,its2,n2,r2,hl2,e2⟩:=I.lstM hB;have hsz:its.toArray.size+its2.toArray.size<=aj:=by rw[bN,bN];omega
 have hlong:¬(!its.toArray.isEmpty && cE.List.listTooLong (its.toArray.size+its2.toArray.size))=true:=by
  rw[Fi hsz,Bool.and_false];exact gX
 refine sT F.slot_list_extend ⟨_,e,rfl⟩ F.entry_list_extend (F.args_list_extend_2 _ _)
  (AutoSeq1.list_extend_list_list_0 l its.toArray n b its2.toArray n2 hlong (by rw[bN];omega) (by omega)) ⟨e,e2,?_⟩
 refine⟨.non,_,I.lset (its':=its++its2) hH e (by simp) (r.append r2) ?_,rfl,q⟩;rw[aE];omega
def Io:V->List V->Hp->VK->Prop:=fun x vs H Q=>∃l xs y,x=.ref l/\vs=[]/\H l=some (.lst xs)/\xs[xs.length-1]?=some y/\Q y (upd H l (.lst xs.dropLast))
theorem Fn:IW X "list.pop" Io:=by
 intro J5 s σ H x vs v us Q I rx rv h;obtain⟨l,xs,y,rfl,rfl,hH,hy,q⟩:=h;cases rx;have hus:=rv.zero;subst hus;obtain⟨z,its,n,r,hl,e⟩:=I.lstM hH;obtain⟨u,hu,ru⟩:=r.get hy;have hy':its.toArray[its.toArray.size-1]?=some u:=by
  show its.toArray[its.length-1]?=some u;rw[<-Array.getElem?_toList,<-hl];exact hu
 refine sT F.slot_list_pop ⟨_,e,rfl⟩ F.entry_list_pop (F.args_list_pop_1 _) (MeetsSeq.list_pop_last l its.toArray n u hy' (by rw[bN];omega)) ⟨e,?_⟩;refine⟨y,_,I.lset (its':=its.dropLast) hH e ?_ r.dropLast ?_,ru,q⟩
 ·show its.toArray.eraseIdxIfInBounds (its.toArray.size-1)=its.dropLast.toArray;rw[bN,List.eraseIdxIfInBounds_toArray,A8]
 ·rw[List.length_dropLast];omega
def ze:V->List V->Hp->VK->Prop:=fun x vs H Q=>∃l xs,x=.ref l/\vs=[]/\H l=some (.lst xs)/\Q .non (upd H l (.lst xs.reverse))
theorem AR:IW X "list.reverse" ze:=by
 intro J5 s σ H x vs v us Q I rx rv h;obtain⟨l,xs,rfl,rfl,hH,q⟩:=h;cases rx;have hus:=rv.zero;subst hus;obtain⟨z,its,n,r,hl,e⟩:=I.lstM hH;refine sT F.slot_list_reverse ⟨_,e,rfl⟩ F.entry_list_reverse (F.args_list_reverse_1 _) (AutoSeq1.list_reverse_list_0 l its.toArray n (by rw[bN];omega)) ⟨e,?_⟩;refine⟨.non,_,I.lset (its':=its.reverse) hH e (by simp) r.reverse ?_,rfl,q⟩;rw[hE];omega
def kS:R2:=fun x y H Q=>∃l b xs zs,x=.ref l/\y=.ref b/\H l=some (.lst xs)/\H b=some (.lst zs)/\xs.length+zs.length<=aj/\∀p,H p=none->Q (.ref p) (upd H p (.lst (xs++zs)))
theorem gk:lg X (jj .Add) kS:=by
 intro J5 s σ H x y v u Q I rx ry h;obtain⟨l,b,xs,zs,rfl,rfl,hH,hB,hz,q⟩:=h;cases rx;cases ry;obtain⟨z,its,n,r,hl,e⟩:=I.lstM hH;obtain⟨z2,its2,n2,r2,hl2,e2⟩:=I.lstM hB;refine PySem.P.add_list e e2 ?_ (by rw[bN,bN];omega);have ea:its.toArray++its2.toArray=(its++its2).toArray:=by simp
 rw[ea];exact⟨.ref _,_,I.lnew (t':=s.toks) (r.append r2) (by rw[aE];omega),rfl,q _ I.fresh⟩
end
end L2
namespace L2
open PySem PySem.Spec PyProof.Rows
section
variable{κ:Type}[DecidableEq κ]
def a_(kvs:List (κ×V))(k:κ):Option V:=(kvs.find? fun kv=>decide (kv.1=k)).map (·.2)
def dz(kvs:List (κ×V))(k:κ)(v:V):List (κ×V) :=
 if(kvs.any fun kv=>decide (kv.1=k))=true then kvs.map (fun kv=>if kv.1=k then(kv.1,v)else kv)else kvs++[(k,v)]
theorem df{p:κ×V}{r:List (κ×V)}{k:κ}(e:p.1=k):a_ (p::r) k=some p.2:=by simp[a_,pD,e]
theorem cS{p:κ×V}{r:List (κ×V)}{k:κ}(e:¬p.1=k):a_ (p::r) k=a_ r k:=by simp[a_,pD,e]
theorem jl(k:κ):∀kvs:List (κ×V),(kvs.any fun kv=>decide (kv.1=k))=(a_ kvs k).isSome
 |[]=>rfl
 |p::r=>by
  rw[wM];by_cases e:p.1=k
  ·simp only[df e,zzr1 e,Bool.true_or,Option.isSome_some]
  ·rw[cS e,zzr0 e,Bool.false_or];exact jl k r
theorem yF(k j:κ)(y:V):∀kvs:List (κ×V),a_ (kvs.map fun kv=>if kv.1=k then(kv.1,y)else kv) j=(a_ kvs j).map fun x=>if j=k then y else x
 |[]=>rfl
 |p::r=>by
  have ih:=yF k j y r;rw[bg];by_cases h:p.1=k
  ·rw[if_pos h];by_cases e:p.1=j
   ·rw[df (p:=(p.1,y)) e,df e,sS,if_pos (e.symm.trans h)]
   ·rw[cS (p:=(p.1,y)) e,cS e,ih]
  ·rw[if_neg h];by_cases e:p.1=j
   ·rw[df (p:=p) e,df e,sS,if_neg (fun z=>h (e.trans z))]
   ·rw[cS (p:=p) e,cS e,ih]
theorem vn(k j:κ)(y:V):∀kvs:List (κ×V),a_ kvs k=none->a_ (kvs++[(k,y)]) j=if j=k then some y else a_ kvs j
 |[],_=>by
  by_cases e:k=j
  ·rw[if_pos e.symm];exact df (p:=(k,y)) e
  ·rw[if_neg (fun z=>e z.symm)];exact cS (p:=(k,y)) e
 |p::r,hn=>by
  rw[List.cons_append];have hk:¬p.1=k:=fun z=>by rw[df z]at hn;cases hn
  rw[cS hk]at hn;have ih:=vn k j y r hn;by_cases e:p.1=j
  ·rw[df e,df e,if_neg (fun z=>hk (e.trans z))]
  ·rw[cS e,cS e,ih]
theorem iB(kvs:List (κ×V))(k j:κ)(y:V):a_ (dz kvs k y) j=if j=k then some y else a_ kvs j:=by
 unfold dz;by_cases a:(kvs.any fun kv=>decide (kv.1=k))=true
 ·rw[if_pos a,yF];rw[jl]at a;by_cases e:j=k
  ·obtain⟨x,hx⟩:=Br.mp a;rw[if_pos e,e,hx,sS,if_pos rfl]
  ·rw[if_neg e];cases a_ kvs j with
   |none=>rfl
   |some x=>rw[sS,if_neg e]
 ·rw[if_neg a];refine vn k j y kvs ?_;rw[jl]at a;cases q:a_ kvs k with
  |none=>rfl
  |some x=>rw[q]at a;exact(a rfl).elim
theorem fJ(kvs:List (κ×V))(k:κ)(v:V):(dz kvs k v).length<=kvs.length+1:=by
 unfold dz;split
 ·rw[ai];omega
 ·rw[aE,fG,List.length_nil];omega
theorem iI{kvs:List (κ×V)}{k:κ}(v:V)(h:a_ kvs k=none):dz kvs k v=kvs++[(k,v)]:=by
 unfold dz;rw[jl,h];exact if_neg (by decide)
theorem ko.isSome_eq{o:Option V}{u:Option Value}(r:ko o u):o.isSome=u.isSome:=by
 cases o with
 |none=>cases u with
  |none=>rfl
  |some _=>exact(show False from r).elim
 |some _=>cases u with
  |none=>exact(show False from r).elim
  |some _=>rfl
theorem ko.getD{o:Option V}{u:Option Value}{d:V}{d':Value}(r:ko o u)(rd:RelV d d'):RelV (o.getD d) (u.getD d'):=by
 cases o with
 |none=>cases u with
  |none=>exact rd
  |some _=>exact(show False from r).elim
 |some _=>cases u with
  |none=>exact(show False from r).elim
  |some _=>exact r
theorem KV.val{kvs:List (κ×V)}{vs:List (κ×Value)}(r:KV kvs vs)(k:κ):ko (a_ kvs k) (mL vs k):=by
 unfold KV at r
 induction r with
 |nil=>exact qH
 |@cons p q ps qs h t ih =>
  obtain⟨h1,h2⟩:=h;by_cases e:p.1=k
  ·have e':q.1=k:=h1.symm.trans e;have b:mL (q::qs) k=some q.2:=by simp[mL,pD,e']
   rw[df e,b];exact h2
  ·have e':¬q.1=k:=fun z=>e (h1.trans z);have b:mL (q::qs) k=mL qs k:=by simp[mL,pD,e']
   rw[cS e,b];exact ih
theorem KV.any{kvs:List (κ×V)}{vs:List (κ×Value)}(r:KV kvs vs)(k:κ):(kvs.any fun kv=>decide (kv.1=k))=vs.any fun kv=>decide (kv.1=k):=by
 unfold KV at r
 induction r with
 |nil=>rfl
 |cons h t ih=>rw[wM,wM,ih,h.1]
theorem KV.repl{kvs:List (κ×V)}{vs:List (κ×Value)}(r:KV kvs vs)(k:κ){y:V}{u:Value}(ry:RelV y u):
  KV (kvs.map fun kv=>if kv.1=k then(kv.1,y)else kv) (vs.map fun kv=>if kv.1=k then(kv.1,u)else kv):=by
 unfold KV at r ⊢
 induction r with
 |nil=>exact .nil
 |@cons p q ps qs h t ih =>
  rw[bg,bg];refine .cons ?_ ih;obtain⟨h1,h2⟩:=h;by_cases e:p.1=k
  ·rw[if_pos e,if_pos (h1.symm.trans e)];exact⟨h1,ry⟩
  ·rw[if_neg e,if_neg (fun z=>e (h1.trans z))];exact⟨h1,h2⟩
theorem KV.put{kvs:List (κ×V)}{vs:List (κ×Value)}(r:KV kvs vs)(k:κ){y:V}{u:Value}(ry:RelV y u):KV (dz kvs k y) (stored vs k u):=by
 unfold dz stored;rw[r.any k];by_cases e:(vs.any fun kv=>decide (kv.1=k))=true
 ·rw[if_pos e,if_pos e];exact r.repl k ry
 ·rw[if_neg e,if_neg e];exact ef r ⟨rfl,ry⟩
theorem KV.length{kvs:List (κ×V)}{vs:List (κ×Value)}(r:KV kvs vs):kvs.length=vs.length:=Paired.length r
end
theorem oZ{P:bO}{w:World}{k:fw}{u:Value}(r:RelV (kV k) u):(cn P w).is k u=true:=by
 cases k with
 |inl i=>obtain⟨t,e⟩:=(show ∃t,u=Value.int i t from r);subst e;exact zD P w i t
 |inr x=>obtain⟨t,e⟩:=(show ∃t,u=Value.str x t from r);subst e;exact zC P w x t
theorem xN:∀{k:nH}{u:Value},RelV (HS k) u->iM k u=true
 |none,u,r=>by cases(show u=Value.none from r);rfl
 |some (.inl i),u,r=>by obtain⟨t,rfl⟩:=r;exact lO i t
 |some (.inr x),u,r=>by obtain⟨t,rfl⟩:=r;exact lN x t
abbrev KT(K:Za)(H:Hp):List (TK×V)->List (TK×Addr×Value)->Prop:=Paired fun p q=>p.1=q.1/\q_ K H p.1 (.ref q.2.1)/\p.1.depth<=8/\RelV p.2 q.2.2
theorem KT.val{K:Za}{H:Hp}{kvs:List (TK×V)}{xs:List (TK×Addr×Value)}(r:KT K H kvs xs)(k:TK):ko (a_ kvs k) ((atKey xs k).map (·.2)):=by
 induction r with
 |nil=>exact qH
 |@cons p q ps qs h t ih =>
  obtain⟨h1,_,_,h2⟩:=h;by_cases e:p.1=k
  ·have e':q.1=k:=h1.symm.trans e;have b:atKey (q::qs) k=some q.2:=by simp[atKey,pD,e']
   rw[df e,b];exact h2
  ·have e':¬q.1=k:=fun z=>e (h1.trans z);have b:atKey (q::qs) k=atKey qs k:=by simp[atKey,pD,e']
   rw[cS e,b];exact ih
theorem KT.repl{K:Za}{H:Hp}{kvs:List (TK×V)}{xs:List (TK×Addr×Value)}(r:KT K H kvs xs)(k:TK){y:V}{u:Value}(ry:RelV y u):
  KT K H (kvs.map fun kv=>if kv.1=k then(kv.1,y)else kv) (xs.map (putAt k u)):=by
 induction r with
 |nil=>exact .nil
 |@cons p q ps qs h t ih =>
  rw[bg,bg];refine .cons ?_ ih;obtain⟨h1,h2,h3⟩:=h;unfold putAt;by_cases e:p.1=k
  ·rw[if_pos e,if_pos (h1.symm.trans e)];exact⟨h1,h2,h3.1,ry⟩
  ·rw[if_neg e,if_neg (fun z=>e (h1.trans z))];exact⟨h1,h2,h3⟩
theorem KT.put{K:Za}{H:Hp}{kvs:List (TK×V)}{xs:List (TK×Addr×Value)}(r:KT K H kvs xs)(k:TK){b:Addr}{y:V}{u:Value}(hb:q_ K H k (.ref b))(h8:k.depth<=8)(ry:RelV y u):
  KT K H (dz kvs k y) (storedH xs k b u):=by
 have e:(kvs.any fun kv=>decide (kv.1=k))=(atKey xs k).isSome:=by
  rw[jl,(r.val k).isSome_eq,Option.isSome_map]
 unfold dz storedH;rw[e];by_cases q:(atKey xs k).isSome=true
 ·rw[if_pos q,if_pos q];exact r.repl k ry
 ·rw[if_neg q,if_neg q];exact ef r ⟨rfl,hb,h8,ry⟩
theorem KT.keeps{K:Za}{H H':Hp}{kvs:List (TK×V)}{xs:List (TK×Addr×Value)}(r:KT K H kvs xs)(ht:∀b ys,H b=some (.tup ys)->H' b=some (.tup ys)):KT K H' kvs xs :=
 Paired.mapP r fun _ _ z=>⟨z.1,q_.keeps ht 8 z.2.2.1 z.2.1,z.2.2⟩
section
variable{P:bO}{w:World}{K:Za}{H:Hp}{h:Heap}{a:Addr}
theorem HK{u:HO}(ok:lT P w K H h)(e:Rd H a u):cB P w K H h a u:=e.ok ok
theorem o9{kvs:List (fw×V)}(ok:lT P w K H h)(e:Rd H a (.dK kvs)):kvs.length<=aj/\(a==ia)=false/\∃vs,KV kvs vs/\h.DictOf (cn P w) a vs :=
 show cB P w K H h a (.dK kvs)from HK ok e
theorem Js{kvs:List (fw×V)}(ok:lT P w K H h)(e:H a=some (.dK kvs)):kvs.length<=aj/\(a==ia)=false/\∃vs,KV kvs vs/\h.DictOf (cn P w) a vs:=o9 ok (.inl e)
theorem Ie(ok:lT P w K H h)(kin:K.In h):∀(d:Nat) {k:TK}{v:V}{u:Value},k.depth<=d->q_ K H k v->RelV v u->mf h k u:=by
 have key:∀(d:Nat) (ih:∀{k:TK}{v:V}{u:Value},k.depth<=d->q_ K H k v->RelV v u->mf h k u) (ks:List TK) (vs:List V) (us:Zf),TK.depths ks<=d->TKCs K H ks vs->aR vs us->TAts h ks us:=by
  intro d ih ks
  induction ks with
  |nil =>
   intro vs us _ hx r;have e:vs=[]:=hx;subst e;cases r
   rfl
  |cons k ks ihl =>
   intro vs us hd hx r;obtain⟨v,vs',rfl,h1,h2⟩:=hx;cases r with
   |@cons _ u _ us' r1 r2 =>
    have hd':max k.depth (TK.depths ks)<=d:=hd;exact⟨u,us',rfl,ih (by omega) h1 r1,ihl vs' us' (by omega) h2 r2⟩
 intro d
 induction d with
 |zero =>
  intro k v u hd hx r;cases k with
  |t l=>exact absurd hd (by show ¬(TK.depths l+1<=0);omega)
  |k b =>
   have e:v=HS b:=hx;subst e;exact xN r
 |succ d ih =>
  intro k v u hd hx r;cases k with
  |k b =>
   have e:v=HS b:=hx;subst e;exact xN r
  |t l =>
   obtain⟨b,xs,rfl,hb,hi⟩:=hx;cases(show u=Value.ref b from r);obtain⟨its,rv,ob,h1,h2,n,h3⟩:∃its:List Value,aR xs its/\IsTup h b its.toArray:=by
    rcases hb with hb|⟨o,its,n,hk,hc,hs,hz,r⟩
    ·obtain⟨_,its,rv,p⟩:=(show cB P w K H h b (.tup xs)from ok b _ hb);exact⟨its,rv,p⟩
    ·exact⟨its.toList,r,o,kin b o hk,hc,n,by simpa using hs⟩
   exact⟨b,ob,its.toArray,n,rfl,h1,h2,h3,by simpa using key d (fun h1=>ih h1) l xs its (by have:TK.depths l+1<=d+1:=hd;omega) hi rv⟩
theorem xK{k:TK}(ok:lT P w K H h)(kin:K.In h)(e:q_ K H k (.ref a))(h8:k.depth<=8):(ei P w).is h k a:=⟨Ie ok kin 8 h8 e rfl,h8⟩
theorem qW{kvs:List (TK×V)}(ok:lT P w K H h)(kin:K.In h)(e:Rd H a (.dT kvs)):kvs.length<=aj/\(a==ia)=false /\
  ∃xs,KT K H kvs xs/\h.DictOfH (ei P w) a xs:=by
 obtain⟨z,y,xs,r,o,es,ep,h1,h2,h3,h4,h5⟩:=(show cB P w K H h a (.dT kvs)from HK ok e);refine⟨z,y,xs,r,o,es,ep,h1,h2,h3,h4,fun x hx=>?_,h5⟩;have all:∀{l:List (TK×V)}{m:List (TK×Addr×Value)},KT K H l m->∀x∈m,(ei P w).is h x.1 x.2.1:=by
  intro l m q
  induction q with
  |nil=>intro x hx;exact nomatch hx
  |@cons p q ps qs hq t ih =>
   intro x hx;rcases cy.mp hx with e|hx
   ·subst e;exact xK ok kin (by rw[<-hq.1];exact hq.2.1) (by rw[<-hq.1];exact hq.2.2.1)
   ·exact ih x hx
 exact all r x hx
theorem FH{kvs:List (TK×V)}(ok:lT P w K H h)(kin:K.In h)(e:H a=some (.dT kvs)):kvs.length<=aj/\(a==ia)=false /\
  ∃xs,KT K H kvs xs/\h.DictOfH (ei P w) a xs:=qW ok kin (.inl e)
end
mutual
def me(K:Za)(H:Hp):TK->V->Prop
 |.k a,v=>v=HS a
 |.t l,v=>∃b xs,v=.ref b/\bE K H b xs/\TKIns K H l xs
def TKIns(K:Za)(H:Hp):List TK->List V->Prop
 |[],vs=>vs=[]
 |k::r,vs=>∃v us,vs=v::us/\me K H k v/\TKIns K H r us
end
theorem dL.isIn{K:Za}{H:Hp}:∀(d:Nat) {k:TK}{v:V},k.depth<=d->dL H k v->me K H k v:=by
 have key:∀(d:Nat) (ih:∀{k:TK}{v:V},k.depth<=d->dL H k v->me K H k v) (xs:List TK) (vs:List V),TK.depths xs<=d->TKAts H xs vs->TKIns K H xs vs:=by
  intro d ih xs
  induction xs with
  |nil=>intro vs _ hx;exact hx
  |cons x xs ihl =>
   intro vs hd hx;obtain⟨v,us,rfl,hx1,hx2⟩:=hx;have hd':max x.depth (TK.depths xs)<=d:=hd;exact⟨v,us,rfl,ih (by omega) hx1,ihl us (by omega) hx2⟩
 intro d
 induction d with
 |zero =>
  intro k v hd hx;cases k with
  |t l=>exact absurd hd (by show ¬(TK.depths l+1<=0);omega)
  |k a=>exact hx
 |succ d ih =>
  intro k v hd hx;cases k with
  |k a=>exact hx
  |t l =>
   obtain⟨b,xs,rfl,hb,hi⟩:=hx;exact⟨b,xs,rfl,bE.of hb,key d (fun h1=>ih h1) l xs (by have:TK.depths l+1<=d+1:=hd;omega) hi⟩
theorem Gn{X:Cx}{J5:Zd}{σ:St}{H:Hp}{s:Shared}(I:Inv X J5 σ H s):∀(d:Nat) {k:TK}{v:V}{u:Value},k.depth<=d->me X.K H k v->RelV v u->mf s.heap k u:=by
 have key:∀(d:Nat) (ih:∀{k:TK}{v:V}{u:Value},k.depth<=d->me X.K H k v->RelV v u->mf s.heap k u) (ks:List TK) (vs:List V) (us:Zf),TK.depths ks<=d->TKIns X.K H ks vs->aR vs us->TAts s.heap ks us:=by
  intro d ih ks
  induction ks with
  |nil =>
   intro vs us _ hx r;have e:vs=[]:=hx;subst e;cases r
   rfl
  |cons k ks ihl =>
   intro vs us hd hx r;obtain⟨v,vs',rfl,h1,h2⟩:=hx;cases r with
   |@cons _ u _ us' r1 r2 =>
    have hd':max k.depth (TK.depths ks)<=d:=hd;exact⟨u,us',rfl,ih (by omega) h1 r1,ihl vs' us' (by omega) h2 r2⟩
 intro d
 induction d with
 |zero =>
  intro k v u hd hx r;cases k with
  |t l=>exact absurd hd (by show ¬(TK.depths l+1<=0);omega)
  |k b =>
   have e:v=HS b:=hx;subst e;exact xN r
 |succ d ih =>
  intro k v u hd hx r;cases k with
  |k b =>
   have e:v=HS b:=hx;subst e;exact xN r
  |t l =>
   obtain⟨b,xs,rfl,hb,hi⟩:=hx;cases(show u=Value.ref b from r);obtain⟨its,rv,⟨ob,h1,h2,n,h3⟩,_⟩:=I.tuple hb;exact⟨b,ob,its.toArray,n,rfl,h1,h2,h3,by simpa using key d (fun h1=>ih h1) l xs its (by have:TK.depths l+1<=d+1:=hd;omega) hi rv⟩
theorem uf{X:Cx}{J5:Zd}{σ:St}{H:Hp}{s:Shared}{k:TK}{b:Addr}(I:Inv X J5 σ H s)(e:me X.K H k (.ref b))(h8:k.depth<=8):(ei X.prog X.w).is s.heap k b:=⟨Gn I 8 h8 e rfl,h8⟩
theorem fH{P:bO}{w:World}{A:Around}(hu:A.units+16<cLine):(ei P w).room A.in1:=by
 show A.units+1+8<cLine;omega
def ky(K:Za)(H:Hp)(a:Addr)(y:V)(r:Option V):Prop :=
 (∃kvs k,Rd H a (.dK kvs)/\y=kV k/\r=a_ kvs k)∨∃kvs k b,Rd H a (.dT kvs)/\y=.ref b/\me K H k (.ref b)/\k.depth<=8/\r=a_ kvs k
def JA(H:Hp)(a:Addr)(y v:V)(H':Hp):Prop :=
 (∃kvs k,H a=some (.dK kvs)/\y=kV k/\kvs.length<aj/\H'=upd H a (.dK (dz kvs k v))) ∨
 ∃kvs k b,H a=some (.dT kvs)/\y=.ref b/\dL H k (.ref b)/\k.depth<=8/\kvs.length<aj/\H'=upd H a (.dT (dz kvs k v))
section
variable{X:Cx}{J5:Zd}{σ:St}{H:Hp}{s:Shared}{a:Addr}{y v:V}{u r:Value}{o:Option V}{A:Around}{E:Zc}
theorem Inv.big(I:Inv X J5 σ H s):ia<s.heap.objs.size:=by
 have h:bH<s.heap.objs.size:=(I.mod.glob.keeps I.bk).lt;exact Nat.lt_trans (by decide) h
theorem DF{Q:Zc}(hu:A.units+16<cLine)(I:Inv X J5 σ H s)(g:ky X.K H a y (some v))(ry:RelV y u)(h:∀w' s',Inv X J5 σ H s'->RelV v w'->Q w' s'):
  wpAny (model X.prog X.w) A (mN (.ref a) u) Q E s:=by
 rcases g with⟨kvs,k,e,ey,l⟩|⟨kvs,k,b,e,ey,eb,e8,l⟩
 ·subst ey;obtain⟨z,hd,vs,rel,dd⟩:=o9 I.hok e;obtain⟨w',hw,rw'⟩:=ko.some_of (v:=v) (o:=mL vs k) (by rw[l];exact rel.val k);exact wpAny_getItem_of (oZ ry) dd.mapOf hw (h w' _ (I.tok _) rw')
 ·subst ey;cases(show u=Value.ref b from ry);obtain⟨z,hd,xs,rel,dd⟩:=qW I.hok I.kIn e;obtain⟨w',hw,rw'⟩:=ko.some_of (v:=v) (o:=(atKey xs k).map (·.2)) (by rw[l];exact rel.val k);obtain⟨p,hp,hp2⟩:=mF.mp hw;refine wpAny_getItem_heap (fH hu) (uf I eb e8) dd hp ?_;rw[hp2];exact h w' _ (I.tok _) rw'
theorem d_in{Q:Zc}(hu:A.units+16<cLine)(I:Inv X J5 σ H s)(g:ky X.K H a y o)(ry:RelV y u)(h:∀s',Inv X J5 σ H s'->Q (.bool o.isSome) s'):
  wpAny (model X.prog X.w) A (ee .In u (.ref a)) Q E s:=by
 rcases g with⟨kvs,k,e,ey,l⟩|⟨kvs,k,b,e,ey,eb,e8,l⟩
 ·subst ey;obtain⟨z,hd,vs,rel,dd⟩:=o9 I.hok e;refine wpAny_in_of (oZ ry) hd dd.mapOf ?_;rw[<-(rel.val k).isSome_eq,<-l];exact h _ (I.tok _)
 ·subst ey;cases(show u=Value.ref b from ry);obtain⟨z,hd,xs,rel,dd⟩:=qW I.hok I.kIn e;refine wpAny_in_heap (fH hu) (uf I eb e8) hd dd ?_;have q:=(rel.val k).isSome_eq;rw[Option.isSome_map]at q;rw[<-q,<-l];exact h _ (I.tok _)
theorem Hm{Q:Zc}(hu:A.units+16<cLine)(I:Inv X J5 σ H s)(g:ky X.K H a y o)(ry:RelV y u)(h:∀s',Inv X J5 σ H s'->Q (.bool (!o.isSome)) s'):
  wpAny (model X.prog X.w) A (ee .NotIn u (.ref a)) Q E s:=by
 rcases g with⟨kvs,k,e,ey,l⟩|⟨kvs,k,b,e,ey,eb,e8,l⟩
 ·subst ey;obtain⟨z,hd,vs,rel,dd⟩:=o9 I.hok e;refine wpAny_notIn_of (oZ ry) hd dd.mapOf ?_;rw[<-(rel.val k).isSome_eq,<-l];exact h _ (I.tok _)
 ·subst ey;cases(show u=Value.ref b from ry);obtain⟨z,hd,xs,rel,dd⟩:=qW I.hok I.kIn e;refine wpAny_notIn_heap (fH hu) (uf I eb e8) hd dd ?_;have q:=(rel.val k).isSome_eq;rw[Option.isSome_map]at q;rw[<-q,<-l];exact h _ (I.tok _)
theorem sr{h':Heap}{t':Nat}{ob:HO}(I:Inv X J5 σ H s)(mu:Jw (H a))(hs:i3 a s.heap h')(he:∃q,h'.get? a=some q)(new:cB X.prog X.w X.K (upd H a ob) h' a ob):
  Inv X J5 σ (upd H a ob) { s with heap:=h',toks:=t' } :=
 I.write (x:=a) (e:=a) mu (.inl rfl) (fun b q hb z=>(hs.2 b hb).trans z) he new
theorem FL{P:bO}{w:World}{K:Za}{H':Hp}{h':Heap}{kvs:List (fw×V)}{vs:List (fw×Value)}(z:kvs.length<=aj)(hd:(a==ia)=false)(rel:KV kvs vs)(dd:h'.DictOf (cn P w) a vs):
  cB P w K H' h' a (.dK kvs):=⟨z,hd,vs,rel,dd⟩
theorem DE{H':Hp}{Q:Unit->Shared->Prop}(hu:A.units+16<cLine)(I:Inv X J5 σ H s)(g:JA H a y v H')(ry:RelV y u)(rv:RelV v r)(h:∀s',Inv X J5 σ H' s'->Q () s'):
  wpAny (model X.prog X.w) A (setItem (.ref a) u r) Q E s:=by
 rcases g with⟨kvs,k,e,ey,l,eH⟩|⟨kvs,k,b,e,ey,eb,e8,l,eH⟩
 ·subst ey eH;obtain⟨z,hd,vs,rel,dd⟩:=Js I.hok e;have hz:vs.length<=aj:=by rw[<-rel.length];exact z
  have hl:(dz kvs k v).length<=aj:=by have:=fJ kvs k v;omega
  refine wpAny_setItem_pairs (hsz:=hz) (oZ ry) dd fun h' dd' hs=>h _ ?_;have he:∃q,h'.get? a=some q:=let⟨q,_,_,hq,_⟩:=dd';⟨q,hq⟩;exact sr I (by rw[e];exact qH) hs he (FL hl hd (rel.put k rv) dd')
 ·subst ey eH;cases(show u=Value.ref b from ry);obtain⟨z,hd,xs,rel,dd⟩:=FH I.hok I.kIn e;have hz:xs.length<=aj:=by rw[<-Paired.length rel];exact z
  have hl:(dz kvs k v).length<=aj:=by have:=fJ kvs k v;omega
  refine wpAny_setItem_heap (hsz:=hz) (fH hu) (xK I.hok I.kIn (dL.c 8 e8 eb) e8) dd fun h' dd' hs=>h _ ?_;obtain⟨q,es,ep,hq,h2,h3,h4,_,h5⟩:=dd';refine sr I (by rw[e];exact qH) hs ⟨q,hq⟩ ⟨hl,hd,_,(rel.put k (dL.c 8 e8 eb) e8 rv).keeps fun c ys ec=>?_,q,es,ep,hq,h2,h3,h4,h5⟩;rw[ah (Fk ec e (fun z=>nomatch z))];exact ec
theorem A_{b:Addr}{kvs:List (TK×V)}{k:TK}{Q:Unit->Shared->Prop}(hu:A.units+16<cLine)(I:Inv X J5 σ H s)(e:H a=some (.dT kvs))(eb:q_ X.K H k (.ref b))(e8:k.depth<=8)(l:kvs.length<aj)(ry:RelV (.ref b) u)(rv:RelV v r)(h:∀s',Inv X J5 σ (upd H a (.dT (dz kvs k v))) s'->Q () s'):
  wpAny (model X.prog X.w) A (setItem (.ref a) u r) Q E s:=by
 cases(show u=Value.ref b from ry);obtain⟨z,hd,xs,rel,dd⟩:=FH I.hok I.kIn e;have hz:xs.length<=aj:=by rw[<-Paired.length rel];exact z
 have hl:(dz kvs k v).length<=aj:=by have:=fJ kvs k v;omega
 refine wpAny_setItem_heap (hsz:=hz) (fH hu) (xK I.hok I.kIn (eb) e8) dd fun h' dd' hs=>h _ ?_;obtain⟨q,es,ep,hq,h2,h3,h4,_,h5⟩:=dd';refine sr I (by rw[e];exact qH) hs ⟨q,hq⟩ ⟨hl,hd,_,(rel.put k (eb) e8 rv).keeps fun c ys ec=>?_,q,es,ep,hq,h2,h3,h4,h5⟩;rw[ah (Fk ec e (fun z=>nomatch z))];exact ec
end
def DS(i:Expr):Prop:=∀ov iv,wP i false ov iv=operate [ov,iv] (mN ov iv)
theorem Gu{prog:bO}{w:World}{A:Around}{E:Zc}{s:Shared}{env:Env}{value slice:Expr}{pos:Pos}{T id:String}{Q:Zc}
  (hl:typeLookup (.type T) "__getitem__"=pure (some (.builtin id))) (hs:DS slice)
  (h:wpAny (model prog w) A (eval value env) (fun o s₁=>wpAny (model prog w) A (eval slice env) (fun i s₂=>s₂.TypeIs o T/\wpAny (model prog w) A (mN o i) Q E s₂) E s₁) E s) :
  wpAny (model prog w) A (eval (.Subscript value slice pos) env) Q E s:=by
 refine Subscript_ (nT h (fun o s₁ h₁=>nT h₁ (fun i s₂ h₂=>?_) fun _ _ x=>x) fun _ _ x=>x);obtain⟨hT,h₂⟩:=h₂;unfold subscriptTail;refine ao ?_;rw[getitemInPython_of_ne hT.not_modules];refine ao (Gh hT hl ?_);have fin:wpAny (model prog w) A (wP slice false o i) (fun r s₃=>wpAny (model prog w) A (letTemporaryGo value o r >>= fun _=>pure r) Q E s₃) E s₂:=by
  rw[hs o i];exact wpAny_operating (nT h₂ (fun r s₃ h₃=>ao (wpAny_letTemporaryGo (aT h₃))) fun _ _ x=>x)
 first
  |exact aT (ao fin)
  |exact ao (aT (ao fin))
  |exact ao fin
theorem zQ{X:Cx}{J5:Zd}{σ:St}{H:Hp}{s:Shared}{a:Addr}{y:V}{o:Option V}(I:Inv X J5 σ H s)(g:ky X.K H a y o):s.TypeIs (.ref a) "dict":=by
 rcases g with⟨kvs,k,e,_,_⟩|⟨kvs,k,b,e,_,_,_⟩
 ·obtain⟨_,_,vs,_,dd⟩:=o9 I.hok e;exact dd.typeIs
 ·obtain⟨_,_,xs,_,dd⟩:=qW I.hok I.kIn e;exact dd.typeIs
def kL(K:Za)(td ty:TE):TE:=fun σ H Q=>td σ H fun x H1=>ty σ H1 fun y H2=>∃a v,x=.ref a/\ky K H2 a y (some v)/\Q v H2
def CV(K:Za)(ty td:TE):TE:=fun σ H Q=>ty σ H fun y H1=>td σ H1 fun x H2=>∃a o,x=.ref a/\ky K H2 a y o/\Q (.bl o.isSome) H2
def ie(K:Za)(ty td:TE):TE:=fun σ H Q=>ty σ H fun y H1=>td σ H1 fun x H2=>∃a o,x=.ref a/\ky K H2 a y o/\Q (.bl (!o.isSome)) H2
def kf(td ty tv:TE):TS:=fun D σ H=>tv σ H fun v H1=>td σ H1 fun x H2=>ty σ H2 fun y H3=>∃a H4,x=.ref a/\JA H3 a y v H4/\D.nx σ H4
section
variable{X:Cx}{o i e value:Expr}{pos pos' J9:Pos}{td ty tv:TE}
theorem jT(hu:X.A.units+16<cLine)(ho:PE X o td)(hi:PE X i ty)(hs:DS i):PE X (.Subscript o i pos) (kL X.K td ty):=by
 intro J5 s σ H Q I h;refine Gu PySem.F.slot_dict_getitem.lookup hs (cz (ho J5 s σ H _ I h) fun u s1 ⟨x,H1,I1,rx,q1⟩=>cz (hi J5 s1 σ H1 _ I1 q1) fun iv s2 ⟨y,H2,I2,ry,a,v,ex,g,q2⟩=>?_);subst ex;obtain rfl:u=Value.ref a:=rx;exact⟨zQ I2 g,DF hu I2 g ry fun w' s3 I3 rw'=>⟨v,H2,I3,rw',q2⟩⟩
theorem tX(hu:X.A.units+16<cLine)(hi:PE X i ty)(ho:PE X o td):PC X .In i o (CV X.K ty td):=by
 intro J5 s σ H Q I h;refine cz (hi J5 s σ H _ I h) fun iv s1 ⟨y,H1,I1,ry,q1⟩=>cz (ho J5 s1 σ H1 _ I1 q1) fun u s2 ⟨x,H2,I2,rx,a,ov,ex,g,q2⟩=>?_;subst ex;obtain rfl:u=Value.ref a:=rx;exact d_in hu I2 g ry fun s3 I3=>⟨.bl ov.isSome,H2,I3,rfl,q2⟩
theorem fI(hu:X.A.units+16<cLine)(hi:PE X i ty)(ho:PE X o td):PC X .NotIn i o (ie X.K ty td):=by
 intro J5 s σ H Q I h;refine cz (hi J5 s σ H _ I h) fun iv s1 ⟨y,H1,I1,ry,q1⟩=>cz (ho J5 s1 σ H1 _ I1 q1) fun u s2 ⟨x,H2,I2,rx,a,ov,ex,g,q2⟩=>?_;subst ex;obtain rfl:u=Value.ref a:=rx;exact Hm hu I2 g ry fun s3 I3=>⟨.bl (!ov.isSome),H2,I3,rfl,q2⟩
theorem fP(hu:X.A.units+16<cLine)(ho:PE X o td)(hi:PE X i ty)(hv:PE X value tv)(hs:qJ value (some (.Subscript o i pos')) pos.line X.env=pure false):
  PS X (.Assign [.Subscript o i pos'] value pos) (kf td ty tv):=by
 intro J5 s σ H D I h;refine wpAny_Assign_Subscript (cz (hv J5 s σ H _ I h) fun r s1 ⟨v,H1,I1,rv,q1⟩=>cz (ho J5 s1 σ H1 _ I1 q1) fun u s2 ⟨x,H2,I2,rx,q2⟩=>cz (hi J5 s2 σ H2 _ I2 q2) fun iv s3 ⟨y,H3,I3,ry,a,H4,ex,g,q3⟩=>?_) hs;subst ex;obtain rfl:u=Value.ref a:=rx;exact DE hu I3 g ry rv fun s4 I4=>⟨σ,H4,I4,q3⟩
end
theorem FM{P:bO}{w:World}{K:Za}{H:Hp}(h:Heap)(hb:ia<h.objs.size):cB P w K H (h.push { cls:=.type "dict",data:=.dict #[] }) h.objs.size (.dK []) :=
 ⟨cG _,beq_eq_false_iff_ne.mpr (ix (db hb)),[],.nil,Heap.DictOf.new h⟩
theorem FK{P:bO}{w:World}{K:Za}{H:Hp}(h:Heap)(hb:ia<h.objs.size):cB P w K H (h.push { cls:=.type "dict",data:=.dict #[] }) h.objs.size (.dT []) :=
 ⟨cG _,beq_eq_false_iff_ne.mpr (ix (db hb)),[],.nil,_,#[],0,da _ rfl,⟨rfl,rfl,rfl⟩,rfl,rfl,sR⟩
def tG:TE:=fun _ H Q=>∀p,H p=none->Q (.ref p) (upd H p (.dK []))
def mZ:TE:=fun _ H Q=>∀p,H p=none->Q (.ref p) (upd H p (.dT []))
section
variable{X:Cx}{pos:Pos}
theorem oQ:PE X (.Dict [] [] pos) tG:=fun J5 s σ H Q I h =>
 wpAny_Dict_empty ⟨.ref s.heap.objs.size,_,I.laid (a:=s.heap.objs.size) (o:=.dK []) (t':=s.toks) (fun _ _ q=>bq _ q) (ax _) (FM s.heap I.big),rfl,h _ (I.hok.fresh (ax _))⟩
theorem jt:PE X (.Dict [] [] pos) mZ:=fun J5 s σ H Q I h =>
 wpAny_Dict_empty ⟨.ref s.heap.objs.size,_,I.laid (a:=s.heap.objs.size) (o:=.dT []) (t':=s.toks) (fun _ _ q=>bq _ q) (ax _) (FK s.heap I.big),rfl,h _ (I.hok.fresh (ax _))⟩
end
def jg(kvs more:List (fw×V)):List (fw×V):=more.foldl (fun acc kv=>dz acc kv.1 kv.2) kvs
theorem KV.merge:∀{more:List (fw×V)}{rs:List (fw×Value)}{kvs:List (fw×V)}{vs:List (fw×Value)},KV more rs->KV kvs vs->KV (jg kvs more) (merged vs rs):=by
 intro more rs kvs vs r;unfold KV at r
 induction r generalizing kvs vs with
 |nil=>intro q;exact q
 |@cons p q ps qs h t ih =>
  intro r0;have e:KV (dz kvs p.1 p.2) (stored vs q.1 q.2):=by
   have:=r0.put p.1 h.2;rw[<-h.1];exact this
  exact ih e
theorem mB:∀(more kvs:List (fw×V)),(jg kvs more).length<=kvs.length+more.length
 |[],kvs=>by show kvs.length<=kvs.length+0;omega
 |p::r,kvs=>by
  have h1:=mB r (dz kvs p.1 p.2);have h2:=fJ kvs p.1 p.2;show(jg (dz kvs p.1 p.2) r).length<=_;rw[fG];omega
structure M1(X:Cx)(o:Expr)(m:Str)(J7:Pos)(e:Expr)(J6:Pos):Prop where
 base:vh o m X.env (eval o X.env)=eval o X.env
 few:((backTo J6 (aF [e] X.env)).all (fun x=>!x.1) && (nO J6 (nN [] X.env)).all (fun x=>x.1.isSome)
  && decide (([e]:List Expr).length+([]:List pF).length+(if([]:List pF).isEmpty then 0 else 1)<30))=true
 line:(J7.endLine==J6.line)=true
 trees:backTo J6 (aF [e] X.env)=[(false,eval e X.env)]
structure M2(X:Cx)(o:Expr)(m:Str)(J7:Pos)(e f:Expr)(J6:Pos):Prop where
 base:vh o m X.env (eval o X.env)=eval o X.env
 few:((backTo J6 (aF [e,f] X.env)).all (fun x=>!x.1) && (nO J6 (nN [] X.env)).all (fun x=>x.1.isSome)
  && decide (([e,f]:List Expr).length+([]:List pF).length+(if([]:List pF).isEmpty then 0 else 1)<30))=true
 line:(J7.endLine==J6.line)=true
 trees:backTo J6 (aF [e,f] X.env)=[(false,eval e X.env),(false,eval f X.env)]
def IsD(H:Hp)(a:Addr):Prop:=(∃kvs,Rd H a (.dK kvs))∨∃kvs,Rd H a (.dT kvs)
theorem Fw{X:Cx}{J5:Zd}{σ:St}{H:Hp}{s:Shared}{a:Addr}(I:Inv X J5 σ H s)(d:IsD H a):
  s.TypeIs (.ref a) "dict"/\(∀b,Value.ref a=.ref b->∃ob,s.heap.get? b=some ob/\ob.dict=none)/\(a==ia)=false:=by
 rcases d with⟨kvs,e⟩|⟨kvs,e⟩
 ·obtain⟨_,hd,vs,_,dd⟩:=o9 I.hok e;refine⟨dd.typeIs,fun b q=>?_,hd⟩;cases q;obtain⟨ob,_,_,h1,h2,_⟩:=dd;exact⟨ob,h1,h2.2.1⟩
 ·obtain⟨_,hd,xs,_,dd⟩:=qW I.hok I.kIn e;refine⟨dd.typeIs,fun b q=>?_,hd⟩;cases q;obtain⟨ob,_,_,h1,h2,_⟩:=dd;exact⟨ob,h1,h2.2.1⟩
section
variable{X:Cx}{J5:Zd}{σ:St}{H:Hp}{s:Shared}{a:Addr}{y d:V}{u r:Value}{o:Option V}{A:Around}{E:Zc}
theorem II{Q:Zc}(hu:A.units+16<cLine)(I:Inv X J5 σ H s)(g:ky X.K H a y o)(ry:RelV y u)(h:∀w' s',Inv X J5 σ H s'->RelV (o.getD .non) w'->Q w' s'):
  wpAny (model X.prog X.w) A (call (.builtin "dict.get") [.ref a,u]) Q E s:=by
 rcases g with⟨kvs,k,e,ey,l⟩|⟨kvs,k,b,e,ey,eb,e8,l⟩
 ·subst ey;obtain⟨z,hd,vs,rel,dd⟩:=o9 I.hok e;refine sQ pC dd.typeIs wL (PySem.F.args_dict_get_2 _ _) (meets_dict_get (cn X.prog X.w) a (oZ ry) hd) ⟨_,dd.mapOf,h _ _ (I.tok _) ?_⟩;rw[l];exact(rel.val k).getD rfl
 ·subst ey;cases(show u=Value.ref b from ry);obtain⟨z,hd,xs,rel,dd⟩:=qW I.hok I.kIn e;refine sQ pC dd.typeIs wL (PySem.F.args_dict_get_2 _ _) (meetsH_dict_get (ei X.prog X.w) a b hd) ⟨fH hu,k,xs,uf I eb e8,dd,h _ _ (I.tok _) ?_⟩;rw[l];exact(rel.val k).getD rfl
theorem IH{Q:Zc}(hu:A.units+16<cLine)(I:Inv X J5 σ H s)(g:ky X.K H a y o)(ry:RelV y u)(rd:RelV d r)(h:∀w' s',Inv X J5 σ H s'->RelV (o.getD d) w'->Q w' s'):
  wpAny (model X.prog X.w) A (call (.builtin "dict.get") [.ref a,u,r]) Q E s:=by
 rcases g with⟨kvs,k,e,ey,l⟩|⟨kvs,k,b,e,ey,eb,e8,l⟩
 ·subst ey;obtain⟨z,hd,vs,rel,dd⟩:=o9 I.hok e;refine sQ pC dd.typeIs wL (PySem.F.args_dict_get_3 _ _ _) (meets_dict_get_default (cn X.prog X.w) a (oZ ry) hd r) ⟨_,dd.mapOf,h _ _ (I.tok _) ?_⟩;rw[l];exact(rel.val k).getD rd
 ·subst ey;cases(show u=Value.ref b from ry);obtain⟨z,hd,xs,rel,dd⟩:=qW I.hok I.kIn e;refine sQ pC dd.typeIs wL (PySem.F.args_dict_get_3 _ _ _) (meetsH_dict_get_default (ei X.prog X.w) a b hd r) ⟨fH hu,k,xs,uf I eb e8,dd,h _ _ (I.tok _) ?_⟩;rw[l];exact(rel.val k).getD rd
end
def pZ(K:Za)(td ty:TE):TE:=fun σ H Q=>td σ H fun x H1=>∃a,x=.ref a/\IsD H1 a/\ty σ H1 fun y H2=>∃o,ky K H2 a y o/\Q (o.getD .non) H2
def xk(K:Za)(td ty tx:TE):TE:=fun σ H Q=>td σ H fun x H1=>∃a,x=.ref a/\IsD H1 a/\ty σ H1 fun y H2=>tx σ H2 fun z H3=>∃o,ky K H3 a y o/\Q (o.getD z) H3
section
variable{X:Cx}{o e f:Expr}{J7 J6:Pos}{td ty tx:TE}
theorem ju(hu:X.A.units+16<cLine)(ho:PE X o td)(he:PE X e ty)(m:M1 X o "get" J7 e J6):PE X (.Call (.Attribute o "get" J7) [e] [] J6) (pZ X.K td ty):=by
 intro J5 s σ H Q I h;refine wpAny_Call_method m.base m.few m.line PySem.F.plainAttrs_dict pC PySem.F.type_dict_get (cz (ho J5 s σ H _ I h) fun u s1 ⟨x,H1,I1,rx,a,ex,d,q1⟩=>?_);subst ex;obtain rfl:u=Value.ref a:=rx;obtain⟨t1,t2,_⟩:=Fw I1 d;refine⟨t1,t2,?_⟩;rw[m.trees];refine wN rfl (Calls.evalArgs_plain (Bv (cz (he J5 s1 σ H1 _ I1 q1) fun iv s2 ⟨y,H2,I2,ry,ov,g,q2⟩=>Calls.spliced_nil ?_)));exact II hu I2 g ry fun w' s3 I3 rw'=>⟨_,H2,I3,rw',q2⟩
theorem tV(hu:X.A.units+16<cLine)(ho:PE X o td)(he:PE X e ty)(hf:PE X f tx)(m:M2 X o "get" J7 e f J6):PE X (.Call (.Attribute o "get" J7) [e,f] [] J6) (xk X.K td ty tx):=by
 intro J5 s σ H Q I h;refine wpAny_Call_method m.base m.few m.line PySem.F.plainAttrs_dict pC PySem.F.type_dict_get (cz (ho J5 s σ H _ I h) fun u s1 ⟨x,H1,I1,rx,a,ex,d,q1⟩=>?_);subst ex;obtain rfl:u=Value.ref a:=rx;obtain⟨t1,t2,_⟩:=Fw I1 d;refine⟨t1,t2,?_⟩;rw[m.trees];refine wN rfl (Calls.evalArgs_plain (Bv (cz (he J5 s1 σ H1 _ I1 q1) fun iv s2 ⟨y,H2,I2,ry,q2⟩ =>
  Bv (cz (hf J5 s2 σ H2 _ I2 q2) fun fv s3 ⟨z,H3,I3,rz,ov,g,q3⟩=>Calls.spliced_nil ?_))))
 exact IH hu I3 g ry rz fun w' s4 I4 rw'=>⟨_,H3,I4,rw',q3⟩
end
end L2
namespace Att
open PySem PySem.W PySem.Calls PyProof.Rows
theorem ints_of_wellAll{P:Params}{h:Heap}:∀(ns:List Int) (vs:Zf),WellAll P h vs (ns.map WData.int)->mK vs ns:=by
 intro ns
 induction ns with
 |nil =>
  intro vs w;rw[wK]at w;cases w;exact .nil
 |cons n ns ih =>
  intro vs w;rw[bg]at w;cases w with
  |cons a b =>
   cases a;exact .cons _ _ (ih _ b)
theorem script_of{l:OpenLaw}{n:Nat}(hn:l.most=some n){P:Params}{h:Heap}{args:List WData}{vals:Zf}
  (hpre:l.row.toRowW.claim.pre args=true) (hwl:WellAll P h vals args) :
  ∃a vs ns,vals=[Value.ref a]/\args=[WData.list (ns.map WData.int)]/\h.get? a=some { cls:=.type "list",data:=.seq vs.toArray }/\mK vs ns/\ns.length<=n:=by
 have hsh:WShape.hasAll [] args [.list .int]=true:=(pre_splitW hpre).1;have hc:l.pre.holds [] { args:=args }=true:=(pre_splitW hpre).2;obtain⟨d,r,rfl,h1,h2⟩:=hasAllW_cons hsh;obtain rfl:=hasAllW_nil h2;obtain⟨xs,rfl,h3⟩:=hasW_list h1;obtain⟨ns,rfl⟩:=items_int h3;have hlen:ns.length<=n:=by
  unfold OpenLaw.pre at hc;have h4:(WTm.not (.lt (.lit (.int (n:Int))) (.len (.arg 0)))).holds [] { args:=[.list (ns.map .int)] }=true:=by
   have h4:=(holds_andW hc).1;rw[hn]at h4;exact h4
  have h5:=condW_of h4 (w_not (w_lt w_lit (w_len_list (w_arg rfl))));rw[ai]at h5;refine Nat.le_of_not_lt fun q=>?_;have q':(n:Int)<((ns.length:Nat):Int):=by omega
  first
   | (rw[zzr1 q']at h5;exact absurd h5 (by decide))
   | (simp at h5;omega)
 cases hwl with
 |cons w1 w2 =>
  cases w2;cases w1 with
  |list ho hall=>exact⟨_,_,ns,rfl,rfl,ho,ints_of_wellAll ns _ hall,hlen⟩
theorem post_true(l:OpenLaw)(args:List WData):l.row.toRowW.claim.post args (.bool true) args=true :=
 postW_of (r:=l.row.toRowW) (X:=(true==true))
  (show WShape.has [] (.bool true) .bool=true by first|rfl|decide|simp[WShape.has,WShape.arms,WShape.armsAll])
  (show(WTm.eq .res (.lit (.bool true))).value [] { args:=args,res:=some (.bool true),after:=args }=some (.bool (true==true))from w_eq_bool (w_res rfl) w_lit) rfl
theorem attach_call{l:OpenLaw}{n:Nat}{q:bO}{loose:Zb}{XP:(Str->Option Value)->Heap->Prop}{YP:World->Heap->Prop}{d:DefRec}
  (hn:l.most=some n) (hdf:d.params.defaults=[])
  (call:∀(w:World) (s₀ s₁:Shared) (mg mb:Str->Option Value) (fa:Addr) (o:Obj) (pm cd doc:Value) (a:Addr) (vs:Zf) (ns:List Int),
   Ground q loose [] XP w s₀ mg mb s₁.heap->YP w s₁.heap ->
   s₁.heap.get? fa=some o->o.data=.func (docDef d.name d.params d.body d.scope pm cd doc)->s₁.heap.CodeRec cd d.name->mg d.name=some (.ref fa) ->
   s₁.heap.get? a=some { cls:=.type "list",data:=.seq vs.toArray }->mK vs ns->ns.length<=n->s₁.gens=#[] ->
   zzl76 (model l.prog w) kF (.call (.ref fa) ⟨[.ref a],[]⟩) (fun r s'=>r=.ok (.ret (.bool true))/\OldK s₁.heap s'.heap/\s'.os=s₁.os/\nR s'.gens) s₁) :
  WalkO q loose XP YP l.row.toRowW d [] (fun f vs=>PySem.call f vs):=by
 intro w s₀ s₁ mg mb G Y fa o pm cd doc dV kV ho hd hcd hD hmg hg args vals as hpre hlay hrd hwl hlo;obtain rfl:dV=.none:=Dflts.none hD hdf;obtain rfl:kV=.none:=Dflts.noKw hD;obtain⟨a,vs,ns,rfl,rfl,hobj,hints,hlen⟩:=script_of hn hpre hwl;refine enter_call (Bu (call w s₀ s₁ mg mb fa o pm cd doc a vs ns G Y ho (fd_plain hd) hcd hmg hobj hints hlen hg) fun r s' hq=>?_);obtain⟨rfl,h2,h3,h4⟩:=hq;exact⟨.inl ⟨.bool true,.bool true,[],rfl,fun _=>rfl,.bool true,post_true l _,fun _=>⟨List.Pairwise.nil,fun _ hm=>(nomatch hm)⟩⟩,h2,h3,h4⟩
end Att
namespace L2
open PySem PySem.Spec PyProof.Rows
theorem vm:∀{vs:Zf}{ns:List Int},mK vs ns->aR (ns.map V.int) vs
 |_,_,.nil=>.nil
 |_,_,.cons n t h=>.cons ⟨t,rfl⟩ (vm h)
def HC(H:Hp):Prop:=∀b,H b=none∨∃o xs,H b=some (.frz o (.lst xs))
theorem Fp{P:bO}{w:World}{K:Za}{mg mb:Str->Option Value}{CX:Ee}{k:Nat}{fa a:Addr}{fd:kb}{x:Str}{sp:Sp}{s₁:Shared}{vs:Zf}{ns:List Int}
  (KX:K.In s₁.heap) (hns:s₁.heap.Ns bH mg) (hb:s₁.heap.Ns builtinsNs mb) (hbb:∀x:Str,x≠"__name__"->mb x=mr x) (hlim:s₁.heap.NoLimit) (hg:s₁.gens=#[])
  (ha:s₁.heap.get? a=some { cls:=.type "list",data:=.seq vs.toArray }) (hi:mK vs ns) (hl:ns.length<=aj) (hr:eO k kF)
  (F:∀base:Heap,K.In base->base.Ns bH mg->lm P w K mg base CX k fa fd [x] sp) (hbind:∀(s:Shared) (u:Value),sw s fd ⟨[u],[]⟩ [(x,u)])
  (hsp:∀H:Hp,HC H->az K H a (ns.map V.int)->sp [.ref a] H (fun v _=>v=.bl true) fun _ _ _=>False)
  (hCX:∀H e s',CX [] H s₁ (fun _ _ _=>False) e s'->False) :
  zzl76 (model P w) kF (.call (.ref fa) ⟨[.ref a],[]⟩) (fun r s'=>r=.ok (.ret (.bool true))/\OldK s₁.heap s'.heap/\s'.os=s₁.os/\nR s'.gens) s₁:=by
 have rv:=vm hi;have lenV:=hi.length;have core:∀H:Hp,HC H->az K H a (ns.map V.int)->lT P w K H s₁.heap->(∀b,H b≠none->b=a)->(H a≠none->K.lookup a=none) ->
   zzl76 (model P w) kF (.call (.ref fa) ⟨[.ref a],[]⟩) (fun r s'=>r=.ok (.ret (.bool true))/\OldK s₁.heap s'.heap/\s'.os=s₁.os/\nR s'.gens) s₁:=by
  intro H hO hS hok hA hK;have base_of:∀{b:Addr}{o:Obj},s₁.heap.get? b=some o->H b=none->(xP s₁.heap H).get? b=some o:=fun e n=>FA e n;have noA:∀{b:Addr}{o:Obj}{es:Array kE}{ep:Nat},s₁.heap.get? b=some o->o.data=.dict es ep->H b=none:=fun{b o es ep} e d=>by
   cases q:H b with
   |none=>rfl
   |some u =>
    have e':b=a:=hA b (by rw[q];simp);subst e';rw[ha]at e;cases e;have d':Data.seq vs.toArray _=Data.dict es ep:=d;cases d'
  have nsK:∀{b:Addr}{m:Str->Option Value},s₁.heap.Ns b m->(xP s₁.heap H).Ns b m:=fun{b m} ⟨o,es,ep,e,d,r⟩=>⟨o,es,ep,base_of e (noA e d),d,r⟩;have hKb:K.In (xP s₁.heap H):=fun b o e=>base_of (KX b o e) (by
   cases q:H b with
   |none=>rfl
   |some u =>
    have e':b=a:=hA b (by rw[q];simp);subst e';rw[hK (by rw[q];simp)]at e;cases e)
  have hM:Mod K mg (xP s₁.heap H):=⟨hKb,nsK hns,⟨mb,nsK hb,hbb⟩,let⟨mc,h1,h2⟩:=hlim;⟨mc,nsK h1,h2⟩⟩;have e0:Bp P w K mg (xP s₁.heap H) kF [] s₁ H:=⟨rfl,hM,fun b o e=>G_ e,Nat.le_of_eq (Dv _ _),trivial,fun b hb=>absurd (show b∈([]:Ze)from hb) (by simp),hok,.of_eq hg⟩;refine Bu ((F _ hKb (nsK hns)).run kF [] s₁ H ⟨[.ref a],[]⟩ [.ref a] [.ref a] _ _ hr e0 (hbind s₁ (.ref a)) (.cons rfl .nil) (hsp H hO hS)) fun r s' h=>?_;cases r with
  |error e=>exact(hCX H e s' h).elim
  |ok fl =>
   cases fl with
   |next=>exact jk h
   |brk=>exact jk h
   |cont=>exact jk h
   |ret u =>
    obtain⟨v,H',os,bare,un,hok',r',q⟩:=h;have q':v=.bl true:=q;subst q';obtain rfl:u=Value.bool true:=r';refine⟨rfl,OldK.of_keep fun b o e=>?_,os,bare⟩;cases q:H b with
    |none=>exact un.keep b o e q (by intro z;exact absurd (show b∈([]:Ze)from z) (by simp)) (by simp)
    |some u =>
     rcases hO b with z|⟨ob,xs,z⟩
     ·rw[q]at z;cases z
     ·have z2:=un.frzs b ob _ z;obtain⟨e1,_⟩:=hok b _ z;obtain⟨e2,_⟩:=hok' b _ z2;rw[e]at e1;cases e1;exact e2
 cases hk:K.lookup a with
 |some o =>
  have e:=KX a o hk;rw[ha]at e;cases e;refine core (fun _=>none) (fun _=>.inl rfl) (.inr ⟨_,vs.toArray,_,hk,rfl,rfl,rfl,by rw[bN,lenV];exact hl,by simpa using rv⟩) (fun b u z=>by have z':(none:Option HO)=some u:=z;cases z') (fun b z=>absurd rfl z) fun z=>absurd rfl z
 |none =>
  refine core (fun b=>if b=a then some (.frz { cls:=.type "list",data:=.seq vs.toArray } (.lst (ns.map V.int)))else none) (fun b=>?_) (.inl (.inr ⟨{ cls:=.type "list",data:=.seq vs.toArray },if_pos rfl⟩)) (fun b u z=>?_) (fun b z=>?_) fun _=>hk
  ·by_cases hb:b=a
   ·exact .inr ⟨_,_,if_pos hb⟩
   ·exact .inl (if_neg hb)
  ·by_cases hb:b=a
   ·have z':=(if_pos hb).symm.trans z;cases z';subst hb;exact⟨ha,by rw[ai];exact hl,vs,_,rv,ha⟩
   ·have z':=(if_neg hb).symm.trans z;cases z'
  ·by_cases hb:b=a
   ·exact hb
   ·exact absurd (if_neg hb) z
end L2
namespace L2
open PySem PySem.Spec PyProof.Rows
theorem Gj{l:PySem.W.OpenLaw}{n k:Nat}{q:bO}{loose:Zb}{XP:(Str->Option Value)->Heap->Prop}{YP:World->Heap->Prop}{d:DefRec}{K:Params->Za}{CX:World->Ee}{sp:World->Sp}{x:Str}
  (hn:l.most=some n) (hn2:n<=aj) (hdf:d.params.defaults=[]) (hr:eO k kF)
  (hY:∀(w:World) (h:Heap),YP w h->(K w.params).In h)
  (F:∀(w:World) (mg:Str->Option Value) (fa:Addr) (h:Heap),(K w.params).In h->h.Ns bH mg->mg d.name=some (.ref fa) ->
   ∃fd:kb,(∀(s:Shared) (u:Value),sw s fd ⟨[u],[]⟩ [(x,u)]) /\
    ∀base:Heap,(K w.params).In base->base.Ns bH mg->lm l.prog w (K w.params) mg base (CX w) k fa fd [x] (sp w))
  (hsp:∀(w:World) (H:Hp) (a:Addr) (ns:List Int),ns.length<=n->HC H->az (K w.params) H a (ns.map V.int)->sp w [.ref a] H (fun v _=>v=.bl true) fun _ _ _=>False)
  (hCX:∀(w:World) (H:Hp) (s:Shared) (e:Value) (s':Shared),CX w [] H s (fun _ _ _=>False) e s'->False) :
  PySem.W.WalkO q loose XP YP l.row.toRowW d [] (fun f vs=>PySem.call f vs):=by
 refine Att.attach_call hn hdf fun w s₀ s₁ mg mb fa o pm cd doc a vs ns G Y ho hd hcd hmg hobj hints hlen hg=>?_;have KX:=hY w _ Y;obtain⟨fd,hb,hF⟩:=F w mg fa _ KX G.T.g hmg;exact Fp KX G.T.g G.T.b G.T.builtins G.T.nolimit hg hobj hints (aG hlen hn2) hr hF hb (fun H hO hS=>hsp w H a ns hlen hO hS) fun H e s'=>hCX w H s₁ e s'
theorem walk_ofK{l:PySem.W.OpenLaw}{n k:Nat}{q:bO}{loose:Zb}{XP:(Str->Option Value)->Heap->Prop}{YP:World->Heap->Prop}{d:DefRec}{K:Params->Za}{CX:Ee}{sp:Za->Sp}{x:Str}
  (hn:l.most=some n) (hn2:n<=aj) (hdf:d.params.defaults=[]) (hr:eO k kF)
  (hY:∀(w:World) (h:Heap),YP w h->(K w.params).In h)
  (F:∀(w:World) (mg:Str->Option Value) (fa:Addr) (h:Heap),(K w.params).In h->h.Ns bH mg->mg d.name=some (.ref fa) ->
   ∃fd:kb,(∀(s:Shared) (u:Value),sw s fd ⟨[u],[]⟩ [(x,u)]) /\
    ∀base:Heap,(K w.params).In base->base.Ns bH mg->lm l.prog w (K w.params) mg base CX k fa fd [x] (sp (K w.params)))
  (hsp:∀(K:Za) (H:Hp) (a:Addr) (ns:List Int),ns.length<=n->HC H->az K H a (ns.map V.int)->sp K [.ref a] H (fun v _=>v=.bl true) fun _ _ _=>False)
  (hCX:∀(H:Hp) (s:Shared) (e:Value) (s':Shared),CX [] H s (fun _ _ _=>False) e s'->False) :
  PySem.W.WalkO q loose XP YP l.row.toRowW d [] (fun f vs=>PySem.call f vs) :=
 Gj (K:=K) (CX:=fun _=>CX) (sp:=fun w=>sp (K w.params)) hn hn2 hdf hr hY F (fun w H a ns h1 h2 h3=>hsp (K w.params) H a ns h1 h2 h3) fun _ H s e s'=>hCX H s e s'
end L2
namespace L2
open PySem PySem.Spec PyProof.Rows
def cI(s:Stmt)(j:Nat):Stmt:=match s with
 |.ClassDef _ _ _ body _ _ _ _ _ _ _=>body.getD j (.Pass ⟨0,0,0,0⟩)
 |_=>.Pass ⟨0,0,0,0⟩
def ij(s:Stmt):Arguments:=match s with
 |.FunctionDef _ a _ _ _ _ _ _ _ _=>a
 |_=>{ posonlyargs:=[],args:=[],vararg:=none,kwonlyargs:=[],kw_defaults:=[],kwarg:=none,defaults:=[] }
def fT(s:Stmt):List Stmt:=match s with
 |.FunctionDef _ _ b _ _ _ _ _ _ _=>b
 |_=>[]
def bV(s:Stmt):Scope:=match s with
 |.FunctionDef _ _ _ _ _ _ sc _ _ _=>sc
 |_=>{ kind:=.function,names:=[],isGenerator:=false,isCoroutine:=false }
abbrev CX0:Ee:=fun _ _ _ _ _ _=>False
abbrev E0:XK:=fun _ _ _=>False
abbrev aN(sp:Sp)(a:TA):TE:=HH sp [] E0 a
theorem BY{X:Cx}:nA CX0 X E0:=fun _ _ _ _ _ _ _ h=>h.elim
structure I0(K:Za)(x qual:Str)(st:Stmt)(f:Addr)(fd:kb):Prop where
 ex:∃(oc:Value) (od:Option Addr) (kV doc pm:Value) (an:Option Addr) (cdv ct:Value) (osl:Array (Option Value)),
  fd=iA x qual (ij st) (fT st) (bV st) .none kV doc pm an cdv ct/\K.lookup f=some ⟨oc,od,.func fd,osl⟩/\mO K cdv qual=true
 kp:gK K (.ref f)=true
section
variable{P:bO}{w:World}{K:Za}{mg:Str->Option Value}{base:Heap}
theorem I0.ok{x qual:Str}{st:Stmt}{f:Addr}{fd:kb}{N ps:Zb}{k:Nat}{sp:Sp}(F:I0 K x qual st f fd)(S:j4 N ps (bV st))(len:∀vs H Q E,sp vs H Q E->vs.length=ps.length)
  (hbody:∀(cdv:Value) (A:Around) (outer:List Env) (s:Shared) (H:Hp) (vs:List V) (Q:VK) (E:XK),eO k (A.deeper (envOfC qual (bV st) s.heap.objs.size f cdv))->sp vs H Q E ->
   ∃t,Ae (Bb CX0 P w K mg base N qual (bV st) f cdv A outer s H E).nox (fT st) t/\t (be Q) (start N vs) H):lm P w K mg base CX0 (k+1) f fd ps sp:=by
 obtain⟨oc,od,kV,doc,pm,an,cdv,ct,osl,rfl,lk,hcd⟩:=F.ex;refine Jr lk hcd S len fun A outer s H vs Q E hr hsp=>?_;obtain⟨t,h,q⟩:=hbody cdv A outer s H vs Q E hr hsp;exact⟨t,h.nox,q⟩
theorem I0.binds{x qual:Str}{st:Stmt}{f:Addr}{fd:kb}{ps:Zb}(F:I0 K x qual st f fd)
  (h:∀(kV doc pm:Value) (an:Option Addr) (cdv ct:Value) (us:Zf),us.length=ps.length->bindArgs (iA x qual (ij st) (fT st) (bV st) .none kV doc pm an cdv ct) ⟨us,[]⟩=pure (ps.zip us)):Binds K fd ps []:=by
 obtain⟨oc,od,kV,doc,pm,an,cdv,ct,osl,rfl,lk,hcd⟩:=F.ex;exact .all (h kV doc pm an cdv ct)
theorem FF{x qual:Str}{st:Stmt}{f:Addr}{oc:Value}{od an:Option Addr}{osl:Array (Option Value)}{kV doc pm cdv ct:Value}(l:K.lookup f=some ⟨oc,od,.func (iA x qual (ij st) (fT st) (bV st) .none kV doc pm an cdv ct),osl⟩)
  (c:mO K cdv qual=true) (k:gK K (.ref f)=true):I0 K x qual st f (iA x qual (ij st) (fT st) (bV st) .none kV doc pm an cdv ct):=⟨⟨oc,od,kV,doc,pm,an,cdv,ct,osl,rfl,l,c⟩,k⟩
end
theorem Ca{A:Around}{k:Nat}(hr:eO k A):A.units+16<cLine:=Nat.lt_of_le_of_lt (Nat.add_le_add_left (by decide:16<=64) _) hr.units
theorem am{n:Nat}(h:n<=1000):n<aj:=Nat.lt_of_le_of_lt h (by decide)
section
variable{X:Cx}
theorem pv(i:Nat){x:Str}{pos:Pos}(hN:X.N[i]?=some x:=by rfl)(hv:JJ X.env.scope x:=by first|exact Or.inl rfl|exact Or.inr (Or.inl rfl)|exact Or.inr (Or.inr rfl))(hd:(x==("__debug__":Str))=false:=by decide)
  (hcd:(x==("__classdict__":Str))=false:=by decide):PE X (.Name x pos) (mU i):=Ix hN hv hd hcd
end
theorem bj{A B:Prop}(h:B):if false=true then A else B:=by
 rw[if_neg gX];exact h
theorem bX{A B:Prop}(h:A):if true=true then A else B:=by
 rw[if_pos rfl];exact h
theorem k3{c A B:Prop}[Decidable c](h1:c->A)(h2:¬c->B):if c then A else B:=by
 by_cases h:c
 ·rw[if_pos h];exact h1 h
 ·rw[if_neg h];exact h2 h
def ab(H H':Hp):Prop:=∀b o,H b=some o->H' b=some o
theorem ab.refl(H:Hp):ab H H:=fun _ _ h=>h
theorem ab.trans{H H1 H2:Hp}(a:ab H H1)(b:ab H1 H2):ab H H2:=fun c o h=>b c o (a c o h)
theorem ab.free{H H':Hp}(e:ab H H'){l:Addr}(h:H' l=Option.none):H l=Option.none:=by
 cases q:H l with
 |none=>rfl
 |some o =>
  rw[e l o q]at h;cases h
theorem ab.seq{K:Za}{H H':Hp}{a:Addr}{xs:List V}(e:ab H H')(h:az K H a xs):az K H' a xs:=by
 rcases h with(h|⟨o,h⟩)|h
 ·exact .inl (.inl (e _ _ h))
 ·exact .inl (.inr ⟨o,e _ _ h⟩)
 ·exact .inr h
section
variable{prog:bO}{w:World}{A:Around}{R:Result->Shared->Prop}{s:Shared}
abbrev XF:Value->Shared->Prop:=fun _ _=>False
abbrev A5(ifs:List Expr)(env:Env):Sem Bool:=forIn ifs true fun c r=>if r=true then do let ok <- isTrue c env (eval c env);pure (wJ ok)else pure (wJ r)
theorem xU{elt target iter:Expr}{ifs:List Expr}{scope:Scope}{pos:Pos}{it acc:Value}{env:Env}(I:Nat->Shared->Prop)
  (turn:∀n s,I n s->wpAny (model prog w) A (pyNext it) (fun r s₁=>match r with
   |none=>R (.ok .next) s₁
   |some v=>wpAny (model prog w) A (BB target it v) (fun _ s₁'=>wpAny (model prog w) A (assign target env v) (fun _ s₂ =>
     wpAny (model prog w) A (A5 ifs env) (fun ok s₃ =>
      if ok=true then wpAny (model prog w) A (eval elt env) (fun x s₄ =>
       wpAny (model prog w) A (call (.builtin "list.append") [acc,x]) (fun _ s₅=>∃m,m<n/\I m s₅) XF s₄) XF s₃
      else ∃m,m<n/\I m s₃) XF s₂) XF s₁') XF s₁) XF s)
  (n:Nat) (h:I n s):zzl76 (model prog w) A (.compLoop (.ListComp elt [⟨target,iter,ifs,0⟩] scope pos) 0 it acc env) R s:=by
 refine codeAny_loop rfl I (fun n s hI=>?_) n h;show wpAny _ A ((compTurn (.ListComp elt [⟨target,iter,ifs,0⟩] scope pos) 0 it acc env).onRaise (fun x=>do noteFrame x env;theTreesLotGoes x)) _ _ s
 refine wpAny_noted ?_;rw[compTurn_list];refine ao (wpAny_standAt (ao (nT (turn n s hI) (fun r s₁ h₁=>?_) fun _ _ h'=>h'.elim)));cases r with
 |none=>exact aT h₁
 |some v =>
  refine ao (nT h₁ (fun _ s₁' h₁'=>?_) fun _ _ h'=>h'.elim);refine ao (nT h₁' (fun _ s₂ h₂=>ao (nT h₂ (fun ok s₃ h₃=>?_) fun _ _ h'=>h'.elim)) fun _ _ h'=>h'.elim);cases ok with
  |false=>exact aT ⟨rfl,h₃⟩
  |true =>
   exact ao (ao (nT h₃ (fun x s₄ h₄=>ao (nT h₄ (fun _ s₅ h₅=>aT (aT ⟨rfl,h₅⟩)) fun _ _ h'=>h'.elim)) fun _ _ h'=>h'.elim))
end
theorem nr{env:Env}:∀(names:List (Str×ji)) (cs0:List (Str×Addr)),(∀y∈names,y.2=.free->∃c,env.cells.lookup y.1=some c)->(∀x c,cs0.lookup x=some c->env.cells.lookup x=some c) ->
  ∃cs:List (Str×Addr),(forIn names cs0 fun(x:Str×ji) (r:List (Str×Addr))=>if(x.2==kD)=true then(cellOf env x.1 >>= fun c=>(pure (wJ ((x.1,c)::r)):Sem (ForInStep (List (Str×Addr)))))else pure (wJ r))=pure cs /\
   (∀x c,cs.lookup x=some c->env.cells.lookup x=some c)/\(∀x,(cs0.lookup x).isSome=true->(cs.lookup x).isSome=true)/\∀y∈names,y.2=.free->(cs.lookup y.1).isSome=true
 |[],cs0,_,h0=>⟨cs0,rfl,h0,fun _ h=>h,fun _ h=>nomatch h⟩
 | (n,k)::r,cs0,has,h0=>by
  have hr:∀y∈r,y.2=.free->∃c,env.cells.lookup y.1=some c:=fun y hy=>has y (dX _ hy);by_cases hk:k=.free
  ·subst hk;obtain⟨c,hc⟩:=has (n,.free) dI rfl;obtain⟨cs,e,p1,p2,p3⟩:=nr r ((n,c)::cs0) hr (fun x d hd=>by
    rw[iz]at hd;cases hx:x==n with
    |true =>
     rw[hx]at hd;have:x=n:=by simpa using hx
     subst this;cases hd;exact hc
    |false=>rw[hx]at hd;exact h0 x d hd)
   have hself:(((n,c)::cs0).lookup n).isSome=true:=by rw[iz,beq_self_eq_true];rfl
   have hmono:∀x,(cs0.lookup x).isSome=true->(((n,c)::cs0).lookup x).isSome=true:=fun x hx=>by
    rw[iz];cases x==n with
    |true=>rfl
    |false=>exact hx
   refine⟨cs,?_,p1,fun x hx=>p2 x (hmono x hx),fun y hy hf=>?_⟩
   ·rw[sP];have hcell:cellOf env n=pure c:=by unfold cellOf;rw[hc]
    simp only[beq_self_eq_true,if_true,hcell];exact e
   ·rcases cy.mp hy with rfl|hy
    ·exact p2 _ hself
    ·exact p3 y hy hf
  ·obtain⟨cs,e,p1,p2,p3⟩:=nr r cs0 hr h0;refine⟨cs,?_,p1,p2,fun y hy hf=>?_⟩
   ·rw[sP];have hb:(k==kD)=false:=by simpa using hk
    simp only[hb,sM,if_false];exact e
   ·rcases cy.mp hy with rfl|hy
    ·exact absurd hf hk
    ·exact p3 y hy hf
theorem ux{env:Env}{scope:Scope}(has:∀y∈scope.names,y.2=.free->∃c,env.cells.lookup y.1=some c):
  ∃cs:List (Str×Addr),closureFor scope env=pure cs/\(∀x c,cs.lookup x=some c->env.cells.lookup x=some c)/\∀y∈scope.names,y.2=.free->(cs.lookup y.1).isSome=true:=by
 obtain⟨cs,e,p1,_,p3⟩:=nr (env:=env) scope.names [] has (fun _ _ h=>nomatch h);refine⟨cs,?_,p1,p3⟩;unfold closureFor
 first
  |exact e
  | (simp only[bind_pure];exact e)
  | (rw[show(forIn scope.names [] _:Sem (List (Str×Addr)))=pure cs from e];rfl)
def dE(X:Cx)(N:Zb)(scope:Scope)(C:Addr)(cl:List (Str×Addr))(s₀:Shared)(H₀:Hp)(ex:Ze)(pn:Zd):Cx where
 prog:=X.prog
 w:=X.w
 K:=X.K
 mg:=X.mg
 base:=X.base
 A:=X.A
 N:=N
 s₀:=s₀
 H₀:=H₀
 env:=compEnvC scope cl C X.env
 outer:=X.stack
 stack:=X.stack
 ex:=ex
 fn:=fun _=>false
 calm:=X.calm
 pn:=pn
 xe:=XF
def lQ(sc scope:Scope)(k:Nat)(N XN:Zb)(fi:List Nat):Bool :=
 decide (scope.kind=.function) &&
 (scope.names.all fun y=>decide (y.2≠.cell) && (decide (y.2≠.local) || decide (scope.names.lookup y.1=some .local)) && (decide (y.2≠.free) || decide (sc.names.lookup y.1=some .cell) || decide (sc.names.lookup y.1=some .free))) &&
 decide (N.length=k+fi.length) &&
 ((nS fi.length).all fun j=>match fi[j]? with
  |some i=>match N[k+j]?,XN[i]? with
   |some x,some y=>decide (x=y) && decide (scope.names.lookup x=some .free)
   |_,_=>false
  |none=>false)
structure nJ(sc scope:Scope)(k:Nat)(N XN:Zb)(fi:List Nat):Prop where
 kind:scope.kind=.function
 cell:∀y∈scope.names,y.2≠.cell
 nm:∀y∈scope.names,y.2=.local->scope.names.lookup y.1=some .local
 fr:∀y∈scope.names,y.2=.free->sc.names.lookup y.1=some .cell∨sc.names.lookup y.1=some .free
 len:N.length=k+fi.length
 sl:∀j i,fi[j]?=some i->∃x,N[k+j]?=some x/\XN[i]?=some x/\scope.names.lookup x=some .free
theorem nJ.of{sc scope:Scope}{k:Nat}{N XN:Zb}{fi:List Nat}(h:lQ sc scope k N XN fi=true):nJ sc scope k N XN fi:=by
 unfold lQ at h;simp only[Bool.and_eq_true,List.all_eq_true,Bool.or_eq_true,decide_eq_true_eq]at h;obtain⟨⟨⟨h1,h2⟩,h3⟩,h4⟩:=h;refine⟨h1,fun y hy=>(h2 y hy).1.1,fun y hy e=>((h2 y hy).1.2).resolve_left fun z=>z e,fun y hy e=>?_,h3,fun j i e=>?_⟩
 ·rcases(h2 y hy).2 with(z|z)|z
  ·exact absurd e z
  ·exact .inl z
  ·exact .inr z
 ·have hj:j<fi.length:=(bY.mp e).1;have q:=h4 j (List.mem_range.mpr hj);rw[e]at q;dsimp only at q;cases a:N[k+j]? with
  |none=>rw[a]at q;cases q
  |some x =>
   cases b:XN[i]? with
   |none=>rw[a,b]at q;cases q
   |some y =>
    rw[a,b]at q;simp only[Bool.and_eq_true,decide_eq_true_eq]at q;exact⟨x,rfl,by rw[q.1],q.2⟩
theorem ib{env:Env}:∀{names:List (Str×ji)}{x:Str},names.lookup x=some .free ->
  (names.map fun(n,k)=>if(k==kD && env.scope.kind==.function && env.kindOf n==some .cell)then(n,ji.cell)else(n,k)).lookup x=some .cell ∨
  (names.map fun(n,k)=>if(k==kD && env.scope.kind==.function && env.kindOf n==some .cell)then(n,ji.cell)else(n,k)).lookup x=some .free
 |[],_,h=>by simp at h
 | (n,k)::r,x,h=>by
  have ih:=@ib env r x;simp only[bg];cases hx:x==n with
  |true =>
   simp only[iz,hx]at h;cases h;by_cases hc:(kD==kD && env.scope.kind==.function && env.kindOf n==some .cell)=true
   ·left;rw[if_pos hc];simp[iz,hx]
   ·right;rw[if_neg hc];simp[iz,hx]
  |false =>
   simp only[iz,hx]at h;by_cases hc:(k==kD && env.scope.kind==.function && env.kindOf n==some .cell)=true
   ·rw[if_pos hc];simp only[iz,hx];exact ih h
   ·rw[if_neg hc];simp only[iz,hx];exact ih h
def dD(k:Nat)(fi:List Nat)(σ:St):St:=List.replicate k none++fi.map fun i=>(σ[i]?).join
theorem Bd(k:Nat)(fi:List Nat)(σ:St):(dD k fi σ).length=k+fi.length:=by simp[dD]
theorem uv{k:Nat}{fi:List Nat}{σ:St}{i:Nat}{v:V}(h:(dD k fi σ)[i]?=some (some v)):∃j t,i=k+j/\fi[j]?=some t/\σ[t]?=some (some v):=by
 unfold dD at h;by_cases hi:i<k
 ·rw[sV (by simpa using hi),List.getElem?_replicate_of_lt hi]at h;cases h
 ·rw[sW (by simp;omega),List.length_replicate,de]at h;refine⟨i-k,?_⟩;cases e:fi[i-k]? with
  |none=>rw[e]at h;cases h
  |some t =>
   rw[e]at h;simp only[sS]at h;refine⟨t,by omega,rfl,?_⟩;have h':=ff h;cases e2:σ[t]? with
   |none=>rw[e2]at h';cases h'
   |some o=>rw[e2]at h';simp only[Option.join]at h';first|(rw[h'])|(subst h';rfl)|(simpa using h')
def zX(k:Nat)(g:TG):Prop:=∀x σ H Q,g x σ H Q->g x σ H fun σ2 H2=>Q σ2 H2/\σ2.length=σ.length/\∀i,k<=i->σ2[i]?=σ[i]?
def CB(k:Nat)(g:Ed):Prop:=∀x σ H Q,g x σ H Q->g x σ H fun σ2 H2=>Q σ2 H2/\σ2.length=σ.length/\∀i,k<=i->σ2[i]?=σ[i]?
theorem aJ{k i:Nat}(h:i<k):zX k (d6 i):=fun x σ H Q q=>⟨q,by simp,fun j hj=>by rw[List.getElem?_set_ne (by omega)]⟩
theorem kZ{k:Nat}:CB k iO:=fun x σ H Q ⟨e,q⟩=>⟨e,q,rfl,fun _ _=>rfl⟩
def F1(g:TG):Prop:=∀x σ H Q Q',(∀σ2 H2,Q σ2 H2->Q' σ2 H2)->g x σ H Q->g x σ H Q'
def yq(g:Ed):Prop:=∀x σ H Q Q',(∀σ2 H2,Q σ2 H2->Q' σ2 H2)->g x σ H Q->g x σ H Q'
theorem cj{i:Nat}:F1 (d6 i):=fun _ _ _ _ _ f q=>f _ _ q
theorem dR:yq iO:=fun _ _ _ _ _ f ⟨e,q⟩=>⟨e,f _ _ q⟩
theorem iL{g:TG}{u:Ed}(h1:F1 g)(h2:yq u):yq (bm g u):=fun _ _ _ _ _ f ⟨v,r,e,q⟩=>⟨v,r,e,h1 _ _ _ _ _ (fun _ _ q=>h2 _ _ _ _ _ f q) q⟩
theorem dQ{k:Nat}{g:TG}{u:Ed}(h1:zX k g)(m1:F1 g)(h2:CB k u)(m2:yq u):CB k (bm g u):=fun x σ H Q ⟨v,r,e,q⟩ =>
 ⟨v,r,e,m1 _ _ _ _ _ (fun σ2 H2 ⟨q,l,s⟩=>m2 _ _ _ _ _ (fun σ3 H3 ⟨q',l',s'⟩=>⟨q',l'.trans l,fun i hi=>(s' i hi).trans (s i hi)⟩) (h2 _ _ _ _ q)) (h1 _ _ _ _ q)⟩
theorem oR{K:Za}{k n:Nat}{t:Ed}(h:CB k t):zX k (iX K n t):=fun x σ H Q ⟨a,xs,e,hs,hl,q⟩=>⟨a,xs,e,hs,hl,h _ _ _ _ q⟩
def Ia(X:Cx)(ifs:List Expr)(t:TT):Prop :=
 ∀(J5:Zd) (s:Shared) (σ:St) (H:Hp) (Q:Bool->Hp->Prop),Inv X J5 σ H s->t σ H Q->wpAny (model X.prog X.w) X.A (A5 ifs X.env) (TP X J5 σ Q) X.xe s
def ic:TT:=fun _ H Q=>Q true H
theorem bU{X:Cx}:Ia X [] ic:=fun J5 s σ H Q I h=>aT ⟨H,I,h⟩
theorem gG{X:Cx}{c:Expr}{t:TT}(h:PT X c t):Ia X [c] t:=by
 intro J5 s σ H Q I hw;unfold A5;rw[sP];simp only[if_true];refine ao (ao (cz (h J5 s σ H Q I hw) fun b s1 q=>aT ?_));exact aT q
def cA(k:Nat)(fi:List Nat)(wi:TI)(g:TG)(tc:TT)(te:TE):TE:=fun σ H Q=>wi σ H fun J H1=>∀l,H1 l=none->∃W:Nat->Nat->List V->Hp->Prop,(∃m,W 0 m [] (upd H1 l (.lst [])))/\∀i m vs H2,W i m vs H2->H2 l=some (.lst vs) /\
 ((J.stop i H2/\Q (.ref l) H2)∨(J.go i H2/\∀x H3,J.yld i H2 x H3->g x (dD k fi σ) H3 fun σ2 H4=>tc σ2 H4 fun b H5 =>
  if b=true then te σ2 H5 fun v H6=>H6 l=some (.lst vs)/\vs.length<aj/\∃m',m'<m/\W (i+1) m' (vs++[v]) (upd H6 l (.lst (vs++[v])))else ∃m',m'<m/\W (i+1) m' vs H5))
section
variable{X:Cx}{J5:Zd}{σ:St}
theorem Hr{k:Nat}{N:Zb}{scope:Scope}{fi:List Nat}{H:Hp}{s:Shared}{cl:List (Str×Addr)}{fp:Ze}(S:nJ X.env.scope scope k N X.N fi)(I:Inv X J5 σ H s)
  (hcl:∀x c,cl.lookup x=some c->X.env.cells.lookup x=some c) (hcf:∀y∈scope.names,y.2=.free->(cl.lookup y.1).isSome=true) (hf:∀b∈fp,mm X J5 H b) (hlt:∀b∈fp,b<s.heap.objs.size) :
  (dE X N scope s.heap.objs.size cl s H fp (X.pn++J5)).Ok where
 mod:=I.ok.mod
 kind:=S.kind
 glob:=I.ok.glob
 blt:=I.ok.blt
 above:=ax _
 inj:=fun x y c e1 e2=>I.ok.inj x y c (hcl x c e1) (hcl y c e2)
 has:=fun x h=>by
  have key:∃y∈scope.names,y.1=x/\y.2=.free:=by
   have h':(relabel scope X.env).names.lookup x=some .cell∨(relabel scope X.env).names.lookup x=some .free:=h;have mem:∀(l:List (Str×ji)) (kd:ji),l.lookup x=some kd->(x,kd)∈l:=by
    intro l
    induction l with
    |nil=>intro kd e;cases e
    |cons a r ih =>
     intro kd e;obtain⟨n,k'⟩:=a;rw[iz]at e;cases hx:x==n with
     |true =>
      rw[hx]at e;have:x=n:=by simpa using hx
      subst this;cases e;exact dI
     |false=>rw[hx]at e;exact dX _ (ih kd e)
   have back:∀kd,(x,kd)∈(relabel scope X.env).names->kd=.cell∨kd=.free->∃y∈scope.names,y.1=x/\y.2=.free:=by
    intro kd hm hk;obtain⟨⟨n,k'⟩,hy,e⟩:=aL.mp hm;dsimp only at e;by_cases hc:(k'==kD && X.env.scope.kind==.function && X.env.kindOf n==some .cell)=true
    ·have hk':k'=.free:=by
      simp only[Bool.and_eq_true]at hc;simpa using hc.1.1
     rw[if_pos hc]at e;cases e;exact⟨_,hy,rfl,hk'⟩
    ·rw[if_neg hc]at e;cases e;rcases hk with rfl|rfl
     ·exact absurd rfl (S.cell _ hy)
     ·exact⟨_,hy,rfl,rfl⟩
   rcases h' with h'|h'
   ·exact back _ (mem _ _ h') (.inl rfl)
   ·exact back _ (mem _ _ h') (.inr rfl)
  obtain⟨y,hy,rfl,hk⟩:=key;exact Br.mp (hcf y hy hk)
 cab:=fun x c h=>by cases h
 hd:=I.ok.hd
 frames:=I.ok.frames
 stk:=.inl rfl
 exf:=fun b hb=>⟨db (hlt b hb),fun x c e=>(hf b hb).2.2.2.2.1 x c (hcl x c e)⟩
 bs:=I.bs
 bsz:=aG I.ok.bsz I.sz
 noex:=fun b o e hb=>by
  rcases(hf b hb).2.2.2.1 with z|z
  ·exact I.ok.noex b o e z
  ·exact absurd (gL (aU (I.ok.bs b o e).1) z) (mv _)
 exfs:=fun b hb z=>by
  obtain⟨_,f1,f2,_⟩:=hf b hb;rcases cy.mp (I.stkSub b z)with q|q
  ·exact f1 q
  ·exact f2 q
 funs:=I.stack
 frf:=I.stkFree
theorem FU{k:Nat}{N:Zb}{scope:Scope}{fi:List Nat}{H:Hp}{s:Shared}{cl:List (Str×Addr)}{fp:Ze}{h₁:Heap}{t':Nat}{m:Str->Option Value}(S:nJ X.env.scope scope k N X.N fi)(I:Inv X J5 σ H s)
  (hcl:∀x c,cl.lookup x=some c->X.env.cells.lookup x=some c) (hcf:∀y∈scope.names,y.2=.free->(cl.lookup y.1).isSome=true) (hf:∀b∈fp,mm X J5 H b) (hlt:∀b∈fp,b<s.heap.objs.size)
  (hn:h₁.Ns s.heap.objs.size m) (old:∀b o,s.heap.get? b=some o->h₁.get? b=some o) :
  Inv (dE X N scope s.heap.objs.size cl s H fp (X.pn++J5)) [] (dD k fi σ) H { s with heap:=h₁,toks:=t' }:=by
 have memOf:∀(l:List (Str×ji)) (x:Str) (kd:ji),l.lookup x=some kd->(x,kd)∈l:=by
  intro l
  induction l with
  |nil=>intro x kd e;cases e
  |cons a r ih =>
   intro x kd e;obtain⟨n,k'⟩:=a;rw[iz]at e;cases hx:x==n with
   |true =>
    rw[hx]at e;have:x=n:=by simpa using hx
    subst this;cases e;exact dI
   |false=>rw[hx]at e;exact dX _ (ih x kd e)
 refine⟨Hr S I hcl hcf hf hlt,rfl,I.bare,Un.kept old,⟨m,hn,fun i x v e1 e2 e3=>?_⟩,fun x c e=>?_,I.hok.fresh (ax _),fun x c e=>I.freeC x c (hcl x c e),fun p hp=>?_,I.hok.kept old,?_⟩
 ·obtain⟨j,t,rfl,ht,hv⟩:=uv e2;obtain⟨y,hy,hXN,hfr⟩:=S.sl j t ht;have e1':N[k+j]?=some x:=e1;rw[hy]at e1';cases e1';have hmem:=memOf _ _ _ hfr;obtain⟨c,hc⟩:=Br.mp (hcf _ hmem rfl);have hX:=hcl _ _ hc;obtain⟨mX,hnX,hlX⟩:=I.loc;have kX:=S.fr _ hmem rfl;obtain⟨u,ru,lk⟩:=hlX t x v hXN hv (by rcases kX with z|z;exact .inr (.inl z);exact .inr (.inr z));refine⟨u,ru,.inr ⟨?_,c,hc,?_⟩⟩
  ·exact ib hfr
  ·rcases lk with⟨z,_⟩|⟨_,c',e',q⟩
   ·have z':X.env.scope.names.lookup x=some .local:=z;rcases kX with kX|kX<;>rw[z']at kX<;>cases kX
   ·rw[hX]at e';cases e';obtain⟨o,ho,hd⟩:=q;exact⟨o,old _ o ho,hd⟩
 ·obtain⟨v,o,ho,hd⟩:=I.cell x c (hcl x c e);exact⟨v,o,old _ o ho,hd⟩
 ·rw[dY]at hp;obtain⟨e,n,ne,nf,d⟩:=I.pin p hp;refine⟨old _ _ e,n,db (aU e),fun z=>?_,d⟩;rcases cy.mp (I.stkSub _ z)with q|q
  ·exact ne q
  ·exact nf q
 ·rw[Bd];exact S.len.symm
structure yr(X:Cx)(J5:Zd)(H:Hp)(C:Addr):Prop where
 free:H C=none
 loc:C≠X.env.locals
 young:X.s₀.heap.objs.size<=C
 cells:∀x c,X.env.cells.lookup x=some c->c≠C
 pin:∀p∈X.pn++J5,p.1≠C
theorem uu{elt iter tg:Expr}{ifs:List Expr}{scope:Scope}{pos:Pos}{k:Nat}{N:Zb}{fi:List Nat}{cl:List (Str×Addr)}{g:TG}{tc:TT}{te:TE}{it:Addr}{fp:Ze}{tn:Nat->Heap->Prop}{J:It}{H2:Hp}{s2:Shared}{Q:VK}
  {E:Zc}{RR:Value->Addr->Result->Shared->Prop}
  (S:nJ X.env.scope scope k N X.N fi) (hc:X.calm=true) (hcl:∀x c,cl.lookup x=some c->X.env.cells.lookup x=some c) (hcf:∀y∈scope.names,y.2=.free->(cl.lookup y.1).isSome=true)
  (hg:∀C cl s₀ H₀ ex pn,PG (dE X N scope C cl s₀ H₀ ex pn) tg g) (ho:zX k g) (ht:∀C cl s₀ H₀ ex pn,Ia (dE X N scope C cl s₀ H₀ ex pn) ifs tc) (he:∀C cl s₀ H₀ ex pn,PE (dE X N scope C cl s₀ H₀ ex pn) elt te)
  (I2:Inv X J5 σ H2 s2) (T:rO X.prog X.w X.K tg J fp it tn) (st2:tn 0 s2.heap) (f2:∀b∈fp,mm X J5 H2 b)
  (hw:∀l,H2 l=none->∃W:Nat->Nat->List V->Hp->Prop,(∃m,W 0 m [] (upd H2 l (.lst [])))/\∀i m vs H2,W i m vs H2->H2 l=some (.lst vs) /\
   ((J.stop i H2/\Q (.ref l) H2)∨(J.go i H2/\∀x H3,J.yld i H2 x H3->g x (dD k fi σ) H3 fun σ2 H4=>tc σ2 H4 fun b H5 =>
    if b=true then te σ2 H5 fun v H6=>H6 l=some (.lst vs)/\vs.length<aj/\∃m',m'<m/\W (i+1) m' (vs++[v]) (upd H6 l (.lst (vs++[v])))else ∃m',m'<m/\W (i+1) m' vs H5)))
  (hR:∀D C H' s' m',Inv X J5 σ H' s'->s'.heap.Ns C m'->yr X J5 H' C->Q (.ref D) H'->RR (.ref D) C (.ok .next) s') :
  wpAny (model X.prog X.w) X.A (newList []) (fun acc s₃=>wpAny (model X.prog X.w) X.A (newFunctionEnv scope X.env.globals cl [] X.env.qual none .none (some X.env)) (fun cenv s₄ =>
   zzl76 (model X.prog X.w) X.A (.compStart (.ListComp elt [⟨tg,iter,ifs,0⟩] scope pos) 0 (.ref it) acc { cenv with scope:=relabel scope X.env }) (RR acc cenv.locals) s₄) E s₃) E s2:=by
 have hfresh:H2 s2.heap.objs.size=none:=I2.fresh;obtain⟨W,⟨m0,w0⟩,turn⟩:=hw _ hfresh;refine pB (wpAny_newFunctionEnv S.cell (by intro y hy;simp at hy) (fun h₁ hns₁ hsb₁=>?_) S.kind);dsimp only at hns₁ hsb₁ ⊢;have I3:Inv X J5 σ (upd H2 s2.heap.objs.size (.lst [])) { s2 with heap:=s2.heap.push { cls:=.type "list",data:=.seq ([]:Zf).toArray },toks:=s2.toks }:=I2.lnew (ys:=[]) .nil (cG _);generalize hs3:({ s2 with heap:=s2.heap.push { cls:=.type "list",data:=.seq ([]:Zf).toArray },toks:=s2.toks }:Shared)=s3 at I3;have hh3:s3.heap=s2.heap.push { cls:=.type "list",data:=.seq ([]:Zf).toArray }:=by rw[<-hs3]
 have hsz:s3.heap.objs.size=s2.heap.objs.size+1:=by rw[hh3,qG]
 have hlt:∀b∈fp,b<s2.heap.objs.size:=fun b hb=>by
  obtain⟨o,e,_⟩:=T.obj 0 _ st2 b hb;exact aU e
 have f3:∀b∈fp,mm X J5 (upd H2 s2.heap.objs.size (.lst [])) b:=fun b hb=>⟨by rw[ah (db (hlt b hb))];exact(f2 b hb).1,(f2 b hb).2⟩;have hlt3:∀b∈fp,b<s3.heap.objs.size:=fun b hb=>by rw[hsz];exact Nat.lt_succ_of_lt (hlt b hb)
 have old:∀b o,s3.heap.get? b=some o->h₁.get? b=some o:=fun b o e=>by
  have hb:b≠s3.heap.objs.size:=db (aU e);rw[hh3]at e hb;exact hsb₁.extBut b o hb (bq _ e)
 have hns:h₁.Ns s3.heap.objs.size (fun x=>([]:List (Str×Value)).reverse.lookup x):=by rw[hh3];exact hns₁
 have I4:Inv (dE X N scope s3.heap.objs.size cl s3 (upd H2 s2.heap.objs.size (.lst [])) fp (X.pn++J5)) [] (dD k fi σ) (upd H2 s2.heap.objs.size (.lst [])) { s3 with heap:=h₁,toks:=s2.toks+([]:List (Str×Value)).length } :=
  FU S I3 hcl hcf f3 hlt3 hns old
 have st4:tn 0 h₁:=T.keep _ _ _ st2 fun b hb o e=>old b o (by rw[hh3];exact bq _ e);generalize hY:dE X N scope s3.heap.objs.size cl s3 (upd H2 s2.heap.objs.size (.lst [])) fp (X.pn++J5)=Y at I4;have yp:Y.prog=X.prog:=by rw[<-hY];rfl
 have yw:Y.w=X.w:=by rw[<-hY];rfl
 have yK:Y.K=X.K:=by rw[<-hY];rfl
 have yA:Y.A=X.A:=by rw[<-hY];rfl
 have yx:Y.xe=XF:=by rw[<-hY];rfl
 have yc:Y.calm=true:=by rw[<-hY];exact hc
 have gY:PG Y tg g:=by rw[<-hY];exact hg _ _ _ _ _ _
 have tY:Ia Y ifs tc:=by rw[<-hY];exact ht _ _ _ _ _ _
 have eY:PE Y elt te:=by rw[<-hY];exact he _ _ _ _ _ _
 have yenv:Y.env=compEnvC scope cl s3.heap.objs.size X.env:=by rw[<-hY];rfl
 have fY:∀{H':Hp},(∀b∈fp,H' b=none)->∀b∈fp,mm Y [] H' b:=fun hn b hb=>by
  obtain⟨f0,f1,f2',f3',f4,f5⟩:=f3 b hb;rw[<-hY];refine⟨hn b hb,db (hlt3 b hb),fun z=>?_,.inl hb,fun x c e=>f4 x c (hcl x c e),fun p hp=>?_⟩
  ·rcases cy.mp (I3.stkSub _ z)with q|q
   ·exact f1 q
   ·exact f2' q
  ·rw[dY]at hp;exact f5 p hp
 have loop:∀s4:Shared,s4={ s3 with heap:=h₁,toks:=s2.toks+([]:List (Str×Value)).length } ->
   zzl76 (model X.prog X.w) X.A (.compLoop (.ListComp elt [⟨tg,iter,ifs,0⟩] scope pos) 0 (.ref it) (.ref s2.heap.objs.size) Y.env) (RR (.ref s2.heap.objs.size) s3.heap.objs.size) s4:=by
  rintro s4 rfl;refine xU (fun n s'=>∃i vs H',Inv Y [] (dD k fi σ) H' s'/\tn i s'.heap/\(∀b∈fp,H' b=none)/\W i n vs H') ?_ m0 ⟨0,[],_,I4,st4,fun b hb=>(f3 b hb).1,w0⟩;rintro n s5 ⟨i,vs,H5,I5,st5,fr5,w5⟩;obtain⟨hl5,hcase⟩:=turn i n vs H5 w5;rcases hcase with⟨stop,q⟩|⟨go,step⟩
  ·have d:=T.done Y yp yw yK yc i [] s5 _ H5 XF I5 (fY fr5) st5 stop;rw[yA]at d;refine cz d fun r s6 ⟨hr,I6⟩=>?_;subst hr;have hu:Un (Eb X.stack) fp (upd H2 s2.heap.objs.size (.lst [])) H5 s3.heap s6.heap:=by have:=I6.base;rw[<-hY]at this;exact this
   have ho6:s6.os=s3.os:=by have:=I6.os;rw[<-hY]at this;exact this
   have hok6:lT X.prog X.w X.K H5 s6.heap:=by have:=I6.hok;rw[<-hY]at this;exact this
   have hC6:H5 s3.heap.objs.size=none:=by have:=I6.free;rw[<-hY]at this;exact this
   obtain⟨m6,hn6,_⟩:=I6.loc;have hn6':s6.heap.Ns s3.heap.objs.size m6:=by rw[<-hY]at hn6;exact hn6
   have IX:Inv X J5 σ H5 s6:=I3.call' ho6 hu hok6 I6.bare fun b hb=>by
    obtain⟨f0,f1,f2',f3',f4,f5⟩:=f3 b hb;exact⟨f3',f1,f4,f5⟩
   refine hR _ _ H5 s6 m6 IX hn6' ⟨hC6,h_ I3.lt,I3.sz,fun x c e z=>?_,fun p hp z=>?_⟩ q
   ·obtain⟨v,o,ho,_⟩:=I3.cell x c e;exact absurd (aU ho) (by rw[z];exact mv _)
   ·exact absurd (aU (I3.pin p hp).1) (by rw[z];exact mv _)
  ·have d:=T.item Y yp yw yK yc i [] s5 _ H5 XF I5 (fY fr5) st5 go;rw[yA]at d;refine cz d fun r s6 ⟨u,hr,h6⟩=>?_;subst hr;refine cz h6 fun _ s7 ⟨x,H7,I7,r7,y7,st7,fr7⟩=>?_;have I7':=I7.pinned (fY fr7) (T.obj _ _ st7);have a7:=gY _ s7 _ H7 x u _ I7' r7 (ho _ _ _ _ (step x H7 y7));rw[yp,yw,yA,yx]at a7;refine cz a7 fun _ s8 ⟨σ8,H8,I8,q8,l8,k8⟩=>?_;have a8:=tY _ s8 σ8 H8 _ I8 q8;rw[yp,yw,yA,yx]at a8;have again:∀{H9:Hp}{s9:Shared}{vs':List V}{m':Nat},Inv Y ([]++tR fp s7.heap) σ8 H9 s9->m'<n->W (i+1) m' vs' H9->∃m,m<n/\∃i vs H',Inv Y [] (dD k fi σ) H' s9/\tn i s9.heap/\(∀b∈fp,H' b=none)/\W i m vs H':=fun{H9 s9 vs' m'} I9 hm w9=>by
    refine⟨m',hm,i+1,vs',H9,(I9.unpinned).weak l8.symm (fun j v e=>?_),T.keep _ _ _ st7 fun b hb o e=>(I9.pin (b,o) (cZ _ (cZ _ (jX hb e)))).1,fun b hb=>?_,w9⟩
    ·obtain⟨j',t,rfl,_,_⟩:=uv e;rw[k8 _ (sO _ _)];exact e
    ·obtain⟨o,e,_⟩:=T.obj _ _ st7 b hb;exact(I9.pin (b,o) (cZ _ (cZ _ (jX hb e)))).2.1
   refine cz a8 fun b s9 ⟨H9,I9,q9⟩=>?_;cases b with
   |false =>
    rw[if_neg gX]at q9 ⊢;obtain⟨m',hm,w9⟩:=q9;exact again I9 hm w9
   |true =>
    rw[if_pos rfl]at q9 ⊢;have a9:=eY _ s9 σ8 H9 _ I9 q9;rw[yp,yw,yA,yx]at a9;refine cz a9 fun y s10 ⟨v,H10,I10,r10,hl10,hsz10,m',hm,w10⟩=>?_;have a10:=cF (X:=Y) _ s10 σ8 H10 (.ref s2.heap.objs.size) [v] (.ref s2.heap.objs.size) [y] (fun z H'=>z=.non/\H'=upd H10 s2.heap.objs.size (.lst (vs++[v]))) I10 rfl (.cons r10 .nil) ⟨_,vs,v,rfl,rfl,hl10,hsz10,rfl,rfl⟩;rw[yp,yw,yA,yx]at a10;refine cz a10 fun _ s11 ⟨_,H11,I11,_,_,e11⟩=>?_;subst e11;exact again I11 hm w10
 have hstart:=codeAny_compStart_list (prog:=X.prog) (w:=X.w) (A:=X.A) (elt:=elt) (target:=tg) (iter:=iter) (ifs:=ifs) (rest:=[]) (scope:=scope) (pos:=pos) (it:=.ref it) (acc:=.ref s2.heap.objs.size) (env:=Y.env) (loop _ rfl) (T.self _ 0 _ _ _ st4 (loop _ rfl));rw[yenv]at hstart;rw[<-hs3]at hstart;exact hstart
end
section
variable{X:Cx}
theorem yr.turned{J5:Zd}{σ:St}{H:Hp}{s:Shared}{C:Addr}{h':Heap}(c:yr X J5 H C)(I:Inv X J5 σ H s)(hs:i3 C s.heap h'):Inv X J5 σ H { s with heap:=h' } :=
 I.turned (t':=s.toks) (fun b o hb e=>hs.extBut b o hb e) c.free c.loc (.inr c.young) c.cells c.pin
theorem GZ{elt iter tg:Expr}{ifs:List Expr}{scope:Scope}{pos:Pos}{k:Nat}{N:Zb}{fi:List Nat}{wi:TI}{g:TG}{tc:TT}{te:TE}(hS:lQ X.env.scope scope k N X.N fi=true)(hc:X.calm=true)(hi:PI X tg iter wi)
  (hg:∀C cl s₀ H₀ ex pn,PG (dE X N scope C cl s₀ H₀ ex pn) tg g) (ho:zX k g) (ht:∀C cl s₀ H₀ ex pn,Ia (dE X N scope C cl s₀ H₀ ex pn) ifs tc) (he:∀C cl s₀ H₀ ex pn,PE (dE X N scope C cl s₀ H₀ ex pn) elt te)
  (hs:∀x,yB iter X.env x=pure x:=by intro _;rfl):PE X (.ListComp elt [⟨tg,iter,ifs,0⟩] scope pos) (cA k fi wi g tc te):=by
 intro J5 s σ H Q I h;have S:=nJ.of hS;obtain⟨cl,hclos,hcl,hcf⟩:=ux (env:=X.env) (scope:=scope) fun y hy e=>I.ok.has y.1 (S.fr y hy e);rw[eval_ListComp];refine wpAny_comprehension_free (use:=none) rfl hs hclos S.kind S.nm (cz (hi J5 s σ H _ I h) fun v s1 h1=>cz h1 fun itv s2 h2=>?_);obtain⟨it,fp,tn,J,H2,e,I2,T,st2,f2,hw⟩:=h2;subst e;refine uu (RR:=fun acc C=>compPost (model X.prog X.w) X.A X.xe none (EP X J5 σ Q) acc C) S hc hcl hcf hg ho ht he I2 T st2 f2 hw ?_;intro D C H' s' m' I' hn ce q;exact⟨m',hn,fun h' hs'=>⟨.ref D,H',ce.turned I' hs',rfl,q⟩⟩
theorem AL{elt iter tg:Expr}{ifs:List Expr}{scope:Scope}{pos spos py:Pos}{k:Nat}{N:Zb}{fi:List Nat}{wi:TI}{g:TG}{tc:TT}{te:TE}{j:Nat}{y:Str}(hN:X.N.Nodup)(hj:X.N[j]?=some y)(hy:Loc X.env.scope y)(hS:lQ X.env.scope scope k N X.N fi=true)(hc:X.calm=true)(hi:PI X tg iter wi)
  (hg:∀C cl s₀ H₀ ex pn,PG (dE X N scope C cl s₀ H₀ ex pn) tg g) (ho:zX k g) (ht:∀C cl s₀ H₀ ex pn,Ia (dE X N scope C cl s₀ H₀ ex pn) ifs tc) (he:∀C cl s₀ H₀ ex pn,PE (dE X N scope C cl s₀ H₀ ex pn) elt te)
  (hsw:qJ (.ListComp elt [⟨tg,iter,ifs,0⟩] scope pos) (some (.Name y py)) spos.line X.env=pure true:=by rfl)
  (hs:∀x,yB iter X.env x=pure x:=by intro _;rfl) (hf:X.fn y=true∨X.env.scope.names.lookup y=some .local:=by first|exact .inl rfl|exact .inr rfl|assumption) :
  PS X (.Assign [.Name y py] (.ListComp elt [⟨tg,iter,ifs,0⟩] scope pos) spos) (aI (cA k fi wi g tc te) (d6 j)):=by
 intro J5 s σ H D I h;have S:=nJ.of hS;obtain⟨cl,hclos,hcl,hcf⟩:=ux (env:=X.env) (scope:=scope) fun y hy e=>I.ok.has y.1 (S.fr y hy e);rw[exec_Assign_Name_used _ _ _ _ hsw];refine ao (wpAny_standAt (ao ?_));show wpAny _ X.A (do let _ <- comprehension (.ListComp elt [⟨tg,iter,ifs,0⟩] scope pos) scope X.env _ (newList []) false (eval iter X.env) (some (assign (.Name y py) X.env))) _ _ s
 refine ao (nT (wpAny_comprehension_free (use:=some (assign (.Name y py) X.env)) (Q:=fun _ s'=>SP X J5 D .next s') rfl hs hclos S.kind S.nm
  (cz (hi J5 s σ H _ I h) fun v s1 h1=>cz h1 fun itv s2 h2=>?_)) (fun _ s' hq=>aT (aT hq)) fun _ _ e=>e)
 obtain⟨it,fp,tn,J,H2,e,I2,T,st2,f2,hw⟩:=h2;subst e;refine uu (RR:=fun acc C=>compPost (model X.prog X.w) X.A X.xe (some (assign (.Name y py) X.env)) (fun _ s'=>SP X J5 D .next s') acc C) (Q:=fun x H1=>d6 j x σ H1 D.nx) S hc hcl hcf hg ho ht he I2 T st2 f2 hw ?_;intro A C H' s' m' I' hn ce q;show wpAny _ X.A (assign (.Name y py) X.env (.ref A)) _ _ _;refine wpAny_assign_Name (vx I' hN hj hy (v:=.ref A) rfl (fun s'' I'' hsb=>?_) hf);obtain⟨a,hsa,ha⟩:=hsb;have hCa:C≠a:=by
  rcases ha with z|z
  ·rw[z];exact ce.loc
  ·exact ix (ce.cells y a z)
 refine⟨m',hn.sameBut hsa hCa,fun h' hs'=>?_⟩;exact⟨_,H',ce.turned I'' hs',q⟩
end
theorem Inv.turnedNew{X:Cx}{J5:Zd}{σ:St}{H:Hp}{s:Shared}{h2:Heap}{t':Nat}{ch:Ze}{o:HO}(I:Inv X J5 σ H s)(hf:∀b∈ch,mm X J5 H b)
  (k:∀b q,b∉ch->s.heap.get? b=some q->h2.get? b=some q) (hq:∃q,h2.get? s.heap.objs.size=some q) (hno:∀y,o≠.own y) (new:cB X.prog X.w X.K (upd H s.heap.objs.size o) h2 s.heap.objs.size o) :
  Inv X J5 σ (upd H s.heap.objs.size o) { s with heap:=h2,toks:=t' }:=by
 have hn0:H s.heap.objs.size=none:=I.fresh;have nsz:∀b q,s.heap.get? b=some q->b≠s.heap.objs.size:=fun b q e=>db (aU e);have tr:∀b u,H b=some u->b∉ch:=fun b u e z=>by rw[(hf b z).1]at e;cases e
 refine I.step (g':=s.gens) (d':=s.drawn) (ch:=ch) (fun b hb=>?_) (fun b q _ _ hc e _=>k b q hc e) (fun b q _ _ hc e _=>⟨q.slots,k b q hc e⟩) (fun b q _ e n=>by rw[ah (nsz b q e)];exact n) (fun b q hc e=>⟨q,k b q hc e⟩)
  (fun b xs e=>by rw[ah (ae e hn0)];exact e) (fun b q u e=>by rw[ah (ae e hn0)];exact e) (fun b ps e=>⟨#[],by rw[ah (ae e hn0),e];simp⟩) (fun m hm=>?_) (fun b u e=>?_) I.bare
 ·obtain⟨f0,f1,f2,f3,f4,f5⟩:=hf b hb;exact⟨f3,f1,f4,f5⟩
 ·obtain⟨q,es,ep,ho,r⟩:=hm;exact⟨q,es,ep,k _ q (fun z=>(hf _ z).2.1 rfl) ho,r⟩
 ·by_cases hb:b=s.heap.objs.size
  ·subst hb;rw[aa]at e;cases e;exact new
  ·rw[ah hb]at e;refine(I.hok b u e).stay (fun c v hc q=>k c v ?_ q) (fun c q=>by rw[ah (ae q hn0)];exact q) fun c xs q=>by rw[ah (ae q hn0)];exact q
   rcases hc with z|z
   ·subst z;exact tr _ _ e
   ·exact tr _ _ z
def Jy(K:Za)(a:Addr):It :=
 ⟨fun i H=>∃xs x,az K H a xs/\xs[i]?=some x,fun i H x H'=>∃p v,x=.ref p/\H p=none/\(∀xs,az K H a xs->xs[i]?=some v)/\H'=upd H p (.tup [.int i,v]),fun i H=>∃xs,az K H a xs/\xs.length<=i⟩
theorem CK{P:bO}{w:World}{K:Za}{es:List Expr}{kx:Nat}{J9:Pos}(a e it:Addr)(hne:e≠it):
  rO P w K (.Tuple es kx J9) (Jy K a) [e,it] e (fun i h=>(∃old,IsEnum h e it i old)/\h.IsListIter it a i) where
 mem:=by simp
 obj:=fun i h st b hb=>by
  obtain⟨⟨old,he⟩,o,ho,hc,hd⟩:=st;rcases cy.mp hb with z|z
  ·subst z;exact⟨_,he,fun v z=>by cases z⟩
  ·have z':b=it:=by simpa using z
   subst z';exact⟨o,ho,fun v z=>by rw[hd]at z;cases z⟩
 keep:=fun i h h' st k=>⟨let⟨old,he⟩:=st.1;⟨old,k e (by simp) _ he⟩,st.2.at fun o e=>k it (by simp) o e⟩
 item:=by
  intro X hP hw hK hc i J5 s σ H E I hf st hg;subst hP hw hK;obtain⟨⟨old,he⟩,hit⟩:=st;obtain⟨xs,x,hq,hx⟩:=hg;obtain⟨its,rv,p,hz⟩:=I.list hq;obtain⟨u,hu,ru⟩:=rv.get hx;obtain⟨e0,e1,e2,e3,e4,e5⟩:=hf e (by simp);obtain⟨f0,f1,f2,f3,f4,f5⟩:=hf it (by simp);refine wpAny_pyNext_enum_item he hit p.isList (x:=u) (by simpa using hu) hne fun h' ho' hit' ht' hsz' hk'=>?_;refine⟨_,rfl,wpAny_letOwnedTupleGo_enum (s:={ s with heap:=h',toks:=s.toks+1 }) ho' fun h2 he2 hs2=>?_⟩;have hs2':i3 e h' h2:=hs2;have hpe:s.heap.objs.size≠e:=h_ (aU he);have ht2:h2.get? s.heap.objs.size=some { cls:=.type "tuple",data:=.seq #[.int i s.toks,u] }:=hs2'.extBut _ _ hpe ht';have hn0:H s.heap.objs.size=none:=I.fresh;have hue:upd H s.heap.objs.size (.tup [.int i,x]) e=none:=by rw[ah (ix hpe)];exact e0
  have hpi:s.heap.objs.size≠it:=by
   obtain⟨o,ho,_⟩:=hit;exact h_ (aU ho)
  have hui:upd H s.heap.objs.size (.tup [.int i,x]) it=none:=by rw[ah (ix hpi)];exact f0
  have I2:Inv X J5 σ (upd H s.heap.objs.size (.tup [.int i,x])) { s with heap:=h2,toks:=s.toks+1 }:=by
   refine I.turnedNew (ch:=[e,it]) hf (fun b o hb q=>?_) ⟨_,ht2⟩ (fun _ z=>nomatch z) ⟨by show 2<=aj;decide,[.int i s.toks,u],.cons ⟨_,rfl⟩ (.cons ru .nil),⟨_,ht2,rfl,_,rfl⟩⟩;have nb1:b≠e:=fun z=>hb (by simp[z]);have nb2:b≠it:=fun z=>hb (by simp[z]);exact hs2'.extBut _ _ nb1 (hk' b o nb1 nb2 q)
  refine⟨.ref s.heap.objs.size,_,I2,rfl,⟨_,x,rfl,hn0,fun ys hy=>by rw[I.list_inj hy hq];exact hx,rfl⟩,⟨⟨u,by simpa using he2⟩,hit'.at fun o y=>(hs2'.2 it (ix hne)).trans y⟩,fun b hb=>?_⟩;rcases cy.mp hb with z|z
  ·subst z;exact hue
  ·have z':b=it:=by simpa using z
   subst z';exact hui
 done:=by
  intro X hP hw hK hc i J5 s σ H E I hf st hg;subst hP hw hK;obtain⟨⟨old,he⟩,hit⟩:=st;obtain⟨xs,hq,hx⟩:=hg;obtain⟨its,rv,p,hz⟩:=I.list hq;obtain⟨f0,f1,f2,f3,f4,f5⟩:=hf it (by simp);have hl:=rv.length;exact wpAny_pyNext_enum_end (I.ok.hd hc) he hit p.isList (by simp;omega) fun h' eb=>⟨rfl,I.turned (t':=s.toks) (fun b o hb e=>eb b o hb e) f0 f1 f3 f4 f5⟩
 self:=fun _ _ _ _ _ st h=>let⟨_,he⟩:=st.1;wpAny_pyIter_enum he h
section
variable{X:Cx}{p pos:Pos}{es:List Expr}{kx:Nat}{J9:Pos}
def ui(K:Za)(ta:TA):TI:=fun σ H R=>ta σ H fun vs H1=>∃a,vs=[.ref a]/\(∃xs,az K H1 a xs)/\R (Jy K a) H1
theorem lK{a:Expr}{ta:TA}(hg:Gl X "enumerate")(hm:X.mg "enumerate"=none)(ha:PA X [a] ta)(hs:aF [a] X.env=[(false,eval a X.env)]:=by rfl):PI X (.Tuple es kx J9) (.Call (.Name "enumerate" p) [a] [] pos) (ui X.K ta):=by
 intro J5 s σ H R I h;refine Call_ (qd I hg hm boot_enumerate (yC (cz (ha pos J5 s σ H _ I h) fun us s1 ⟨vs,H1,I1,r1,q1⟩=>?_) hs rfl));obtain⟨l,e,⟨xs,hq⟩,q⟩:=q1;subst e;obtain⟨u,rfl,ru⟩:=vals1 r1;cases ru;obtain⟨its,rv,pl,hz⟩:=I1.list hq;refine call_enumerate_list pl.isList fun h' he hit hsz hk=>?_;refine wpAny_pyIter_enum (s:={ s1 with heap:=h' }) he ?_;have hk':∀b o,s1.heap.get? b=some o->h'.get? b=some o:=hk;have I2:Inv X J5 σ H1 { s1 with heap:=h' }:=I1.kept (t':=s1.toks) hk';refine⟨_,[s1.heap.objs.size+1,s1.heap.objs.size],_,_,H1,rfl,I2,CK l _ _ (Nat.succ_ne_self _),⟨⟨_,he⟩,hit⟩,fun b hb=>?_,q⟩;have hb':s1.heap.objs.size<=b:=by
  rcases cy.mp hb with z|z
  ·rw[z];exact Nat.le_succ _
  ·have z':b=s1.heap.objs.size:=by simpa using z
   rw[z'];exact ax _
 exact I1.fpOk hb' (I1.hok.fresh hb')
end
def JP(x:Str):It:=⟨fun i _=>i<x.cps.size,fun i H y H'=>H'=H/\∃c,x.cps[i]?=some c/\y=.str ⟨#[c]⟩,fun i _=>x.cps.size<=i⟩
theorem Aj{P:bO}{w:World}{K:Za}{tg:Expr}(x:Str)(t:Tok)(it:Addr):rO P w K tg (JP x) [it] it (fun i h=>h.IsStrIter it "str_ascii_iterator" x t i) where
 mem:=by simp
 obj:=fun i h st b hb=>by
  have e:b=it:=by simpa using hb
  subst e;obtain⟨o,e,c,d⟩:=st;exact⟨o,e,fun v z=>by rw[d]at z;cases z⟩
 keep:=fun i h h' st k=>by
  obtain⟨o,e,c,d⟩:=st;exact⟨o,k it (by simp) o e,c,d⟩
 item:=by
  intro X hP hw hK hc i J5 s σ H E I hf st hg;subst hP hw hK;have hlt:i<x.cps.size:=hg;obtain⟨f0,f1,f2,f3,f4,f5⟩:=hf it (by simp);have hx:x.cps[i]?=some x.cps[i]:=by simp[hlt]
  refine wpAny_pyNext_ascii_item st hx fun h' st' sb=>?_;have I1:Inv X J5 σ H { s with heap:=h',toks:=s.toks+1 }:=I.turned (t':=s.toks+1) (fun b o hb e=>(sb.2 b hb).trans e) f0 f1 f3 f4 f5;obtain⟨o,e,c,d⟩:=id st';exact⟨_,rfl,uk (s:={ s with heap:=h',toks:=s.toks+1 }) e c d (by decide) ⟨.str ⟨#[x.cps[i]]⟩,H,I1,⟨_,rfl⟩,⟨rfl,_,hx,rfl⟩,st',fun b hb=>(hf b hb).1⟩⟩
 done:=by
  intro X hP hw hK hc i J5 s σ H E I hf st hg;subst hP hw hK;have hge:x.cps.size<=i:=hg;obtain⟨f0,f1,f2,f3,f4,f5⟩:=hf it (by simp);exact wpAny_pyNext_ascii_end (I.ok.hd hc) st (by simp;omega) fun h' eb=>⟨rfl,I.turned (t':=s.toks) (fun b o hb e=>eb b o hb e) f0 f1 f3 f4 f5⟩
 self:=fun _ _ _ _ _ st h=>wpAny_pyIter_striter_ascii st h
theorem CI{P:bO}{w:World}{K:Za}{tg:Expr}(x:Str)(t:Tok)(it:Addr):rO P w K tg (JP x) [it] it (fun i h=>h.IsStrIter it "str_iterator" x t i) where
 mem:=by simp
 obj:=fun i h st b hb=>by
  have e:b=it:=by simpa using hb
  subst e;obtain⟨o,e,c,d⟩:=st;exact⟨o,e,fun v z=>by rw[d]at z;cases z⟩
 keep:=fun i h h' st k=>by
  obtain⟨o,e,c,d⟩:=st;exact⟨o,k it (by simp) o e,c,d⟩
 item:=by
  intro X hP hw hK hc i J5 s σ H E I hf st hg;subst hP hw hK;have hlt:i<x.cps.size:=hg;obtain⟨f0,f1,f2,f3,f4,f5⟩:=hf it (by simp);have hx:x.cps[i]?=some x.cps[i]:=by simp[hlt]
  refine wpAny_pyNext_wide_item st hx fun h' st' sb=>?_;have I1:Inv X J5 σ H { s with heap:=h',toks:=s.toks+1 }:=I.turned (t':=s.toks+1) (fun b o hb e=>(sb.2 b hb).trans e) f0 f1 f3 f4 f5;obtain⟨o,e,c,d⟩:=id st';exact⟨_,rfl,uk (s:={ s with heap:=h',toks:=s.toks+1 }) e c d (by decide) ⟨.str ⟨#[x.cps[i]]⟩,H,I1,⟨_,rfl⟩,⟨rfl,_,hx,rfl⟩,st',fun b hb=>(hf b hb).1⟩⟩
 done:=by
  intro X hP hw hK hc i J5 s σ H E I hf st hg;subst hP hw hK;have hge:x.cps.size<=i:=hg;obtain⟨f0,f1,f2,f3,f4,f5⟩:=hf it (by simp);exact wpAny_pyNext_wide_end (I.ok.hd hc) st (by simp;omega) fun h' eb=>⟨rfl,I.turned (t':=s.toks) (fun b o hb e=>eb b o hb e) f0 f1 f3 f4 f5⟩
 self:=fun _ _ _ _ _ st h=>wpAny_pyIter_striter_wide st h
section
variable{X:Cx}{p pos:Pos}{tg:Expr}
def Jp(tl:TE):TI:=fun σ H R=>tl σ H fun v H1=>∃x,v=.str x/\R (JP x) H1
theorem Iv{l:Expr}{tl:TE}(hl:PE X l tl):PI X tg l (Jp tl):=by
 intro J5 s σ H R I h;refine cz (hl J5 s σ H _ I h) fun v s1 ⟨y,H1,I1,r1,q1⟩=>?_;obtain⟨x,e,q⟩:=q1;subst e;obtain⟨t,rfl⟩:=r1;have fin:∀b∈[s1.heap.objs.size],mm X J5 H1 b:=fun b hb=>by
  have e:b=s1.heap.objs.size:=by simpa using hb
  subst e;exact I1.fpOk (ax _) (I1.hok.fresh (ax _))
 cases ha:x.cps.all (·<128)
 ·refine wpAny_pyIter_wide ha ?_;exact⟨s1.heap.objs.size,[s1.heap.objs.size],_,_,H1,rfl,I1.kept (t':=s1.toks) fun b o e=>bq _ e,CI x t _,⟨_,da _ rfl,rfl,rfl⟩,fin,q⟩
 ·refine wpAny_pyIter_ascii ha ?_;exact⟨s1.heap.objs.size,[s1.heap.objs.size],_,_,H1,rfl,I1.kept (t':=s1.toks) fun b o e=>bq _ e,Aj x t _,⟨_,da _ rfl,rfl,rfl⟩,fin,q⟩
end
def JO(K:Za)(a b:Addr):It :=
  ⟨fun i H=>∃xs ys x y,az K H a xs/\az K H b ys/\xs[i]?=some x/\ys[i]?=some y,
   fun i H x H'=>∃p u v,x=.ref p/\H p=none/\(∀xs,az K H a xs->xs[i]?=some u)/\(∀ys,az K H b ys->ys[i]?=some v)/\H'=upd H p (.tup [u,v]),
   fun i H=>∃xs ys,az K H a xs/\az K H b ys/\(xs.length<=i∨ys.length<=i)⟩
theorem Em{P:bO}{w:World}{K:Za}{es:List Expr}{kx:Nat}{J9:Pos}(a b z TI TO i1 i2:Addr)(D:pA z TI TO i1 i2 a b):
  rO P w K (.Tuple es kx J9) (JO K a b) [z,TI,TO,i1,i2] z (fun i h=>IsZip h z TI TO .none/\IsPair h TI (.ref i1) (.ref i2)/\(∃a b,IsPair h TO a b)/\h.IsListIter i1 a i/\h.IsListIter i2 b i) where
 mem:=by simp
 obj:=fun i h st c hc=>by
  obtain⟨hz,hTI,⟨u,v,hTO⟩,h1,h2⟩:=st;simp only[cy,sN,or_false]at hc;rcases hc with rfl|rfl|rfl|rfl|rfl
  ·exact⟨_,hz,fun v z=>by cases z⟩
  ·exact⟨_,hTI,fun v z=>by cases z⟩
  ·exact⟨_,hTO,fun v z=>by cases z⟩
  ·obtain⟨o,e,c,d⟩:=h1;exact⟨o,e,fun v z=>by rw[d]at z;cases z⟩
  ·obtain⟨o,e,c,d⟩:=h2;exact⟨o,e,fun v z=>by rw[d]at z;cases z⟩
 keep:=fun i h h' st k=>by
  obtain⟨hz,hTI,⟨u,v,hTO⟩,h1,h2⟩:=st;exact⟨k z (by simp) _ hz,k TI (by simp) _ hTI,⟨u,v,k TO (by simp) _ hTO⟩,h1.at fun o e=>k i1 (by simp) o e,h2.at fun o e=>k i2 (by simp) o e⟩
 item:=by
  intro X hP hw hK hc i J5 s σ H E I hf st hg;subst hP hw hK;obtain⟨hz,hTI,⟨u0,v0,hTO⟩,h1,h2⟩:=st;obtain⟨xs,ys,x,y,hqx,hqy,hx,hy⟩:=hg;obtain⟨its,rx,px,zx⟩:=I.list hqx;obtain⟨jts,ry,py,zy⟩:=I.list hqy;obtain⟨u,hu,ru⟩:=rx.get hx;obtain⟨v,hv,rv⟩:=ry.get hy;refine wpAny_pyNext_zip_item D hz hTI hTO h1 h2 px.isList py.isList (x:=u) (y:=v) (by simpa using hu) (by simpa using hv) fun h' a1 a2 a3 a4 a5 a6 hk=>?_;refine⟨_,rfl,wpAny_letOwnedTupleGo_zip (s:={ s with heap:=h' }) a1 fun h2' hz2 hs2=>?_⟩;have hs2':i3 z h' h2':=hs2;have nsz:s.heap.objs.size≠z:=h_ (aU hz);have nsTO:s.heap.objs.size≠TO:=h_ (aU hTO);have nsTI:s.heap.objs.size≠TI:=h_ (aU hTI);have nsi1:s.heap.objs.size≠i1:=by obtain⟨o,ho,_⟩:=h1;exact h_ (aU ho)
  have nsi2:s.heap.objs.size≠i2:=by obtain⟨o,ho,_⟩:=h2;exact h_ (aU ho)
  have ht2:IsPair h2' s.heap.objs.size u v:=hs2'.extBut _ _ nsz a5;have I2:Inv X J5 σ (upd H s.heap.objs.size (.tup [x,y])) { s with heap:=h2',toks:=s.toks }:=by
   refine I.turnedNew (ch:=[z,TI,TO,i1,i2]) hf (fun c o hc q=>?_) ⟨_,ht2⟩ (fun _ z=>nomatch z) ⟨by show 2<=aj;decide,[u,v],.cons ru (.cons rv .nil),⟨_,ht2,rfl,_,rfl⟩⟩;have n1:c≠z:=fun q=>hc (by simp[q]);exact hs2'.extBut _ _ n1 (hk c o n1 (fun q=>hc (by simp[q])) (fun q=>hc (by simp[q])) (fun q=>hc (by simp[q])) q)
  refine⟨.ref s.heap.objs.size,_,I2,rfl,⟨_,x,y,rfl,I.fresh,fun zs hz=>by rw[I.list_inj hz hqx];exact hx,fun zs hz=>by rw[I.list_inj hz hqy];exact hy,rfl⟩,⟨hz2,hs2'.extBut _ _ D.TIz (hk _ _ D.TIz D.TITO D.TIi1 D.TIi2 hTI),⟨_,_,hs2'.extBut _ _ D.TOz a2⟩,a3.at fun o e=>hs2'.extBut _ _ D.i1z e,a4.at fun o e=>hs2'.extBut _ _ D.i2z e⟩,fun c hc=>?_⟩;have hcn:=(hf c hc).1;simp only[cy,sN,or_false]at hc;have ne:c≠s.heap.objs.size:=by
   rcases hc with rfl|rfl|rfl|rfl|rfl
   ·exact nsz.symm
   ·exact nsTI.symm
   ·exact nsTO.symm
   ·exact nsi1.symm
   ·exact nsi2.symm
  rw[ah ne];exact hcn
 done:=by
  intro X hP hw hK hc i J5 s σ H E I hf st hg;subst hP hw hK;obtain⟨hz,hTI,⟨u0,v0,hTO⟩,h1,h2⟩:=st;obtain⟨xs,ys,hqx,hqy,hend⟩:=hg;obtain⟨its,rx,px,zx⟩:=I.list hqx;obtain⟨jts,ry,py,zy⟩:=I.list hqy;have lx:=rx.length;have ly:=ry.length;refine wpAny_pyNext_zip_end (I.ok.hd hc) D hz hTI hTO h1 h2 px.isList py.isList (by rcases hend with q|q;exact .inl (by simp;omega);exact .inr (by simp;omega)) fun h' hk=>⟨rfl,?_⟩;have tr:∀c q,H c=some q->c∉[z,TI,TO,i1,i2]:=fun c q e m=>by rw[(hf c m).1]at e;cases e
  have kk:∀c o,c∉[z,TI,TO,i1,i2]->s.heap.get? c=some o->h'.get? c=some o:=fun c o hc q=>hk c o (fun q=>hc (by simp[q])) (fun q=>hc (by simp[q])) (fun q=>hc (by simp[q])) (fun q=>hc (by simp[q])) q;refine I.step (g':=s.gens) (d':=s.drawn) (t':=s.toks) (ch:=[z,TI,TO,i1,i2]) (fun c hc=>?_) (fun c o _ _ hc e _=>kk c o hc e) (fun c o _ _ hc e _=>⟨o.slots,kk c o hc e⟩) (fun _ _ _ _ n=>n) (fun c o hc e=>⟨o,kk c o hc e⟩) (fun _ _ e=>e) (fun _ _ _ e=>e) (fun c ps e=>⟨#[],by rw[e];simp⟩) (fun m hm=>?_) (fun c q e=>?_) I.bare
  ·obtain⟨f0,f1,f2,f3,f4,f5⟩:=hf c hc;exact⟨f3,f1,f4,f5⟩
  ·obtain⟨q,es',ep,ho,r⟩:=hm;exact⟨q,es',ep,kk _ q (fun z=>(hf _ z).2.1 rfl) ho,r⟩
  ·refine(I.hok c q e).stay (fun d v hd q'=>kk d v ?_ q') (fun _ q=>q) fun _ _ q=>q;rcases hd with z|z
   ·subst z;exact tr _ _ e
   ·exact tr _ _ z
 self:=fun _ _ _ _ _ st h=>wI st.1 h
section
variable{prog:bO}{w:World}{A:Around}{E:Zc}{s:Shared}
theorem jW{it t:Addr}{i:Nat}{items:Array Value}{x:Value}{Q:Zc}(st:s.heap.IsTupleIter it t i)(tt:s.heap.IsTuple t items)(hx:items[i]?=some x)
  (k:∀h',h'.IsTupleIter it t (i+1)->i3 it s.heap h'->Q x { s with heap:=h' }):wpAny (model prog w) A (kC (.ref it)) Q E s:=by
 obtain⟨oi,gi,ci,di⟩:=id st;obtain⟨ot,gt,_,nt,dt⟩:=tt;unfold kC;refine ao (pr (name:=pq "__next__") st.typeIs wH
  (wa wH st.typeIs F.entry_tuple_iterator_next ?_ (F.args_tuple_iterator_next_1 _)))
 show wpAny _ _ (field (.ref it) 0 >>= _) _ _ s;refine ao (hC gi di (x:=.ref t) rfl ?_);show wpAny _ _ (if(Value.ref t==Value.none)=true then _ else _) _ _ s
 rw[if_neg (show ¬((Value.ref t==Value.none)=true)from gX)];show wpAny _ _ (field (.ref it) 1 >>= _) _ _ s;refine ao (hC gi di (x:=.int i 0) rfl ?_);show wpAny _ _ (seqItems? (.ref t) >>= _) _ _ s;refine ao (mw gt dt ?_);simp only[kG,hx];refine ao (wG gi di (by simp) (aT ⟨x,rfl,aT (k _ ?_ (mJ ..))⟩));exact⟨_,wO _ gi (Obj.isFreed_of_fields (wF di _)),(Obj.cls_mapFields ..).trans ci,by
  rw[wF di];simp[rawInt]⟩
theorem qR{it t:Addr}{i:Nat}{items:Array Value}{Q:Zc}(hh:A.handled=none)(st:s.heap.IsTupleIter it t i)(tt:s.heap.IsTuple t items)(hx:items[i]?=none)
  (k:∀h' e,Heap.ExtBut it s.heap h'->(∃o,h'.get? e=some o/\o.cls=.type "StopIteration")->E (.ref e) { s with heap:=h' }):wpAny (model prog w) A (kC (.ref it)) Q E s:=by
 obtain⟨oi,gi,ci,di⟩:=id st;obtain⟨ot,gt,_,nt,dt⟩:=tt;unfold kC;refine ao (pr (name:=pq "__next__") st.typeIs wH
  (wa wH st.typeIs F.entry_tuple_iterator_next ?_ (F.args_tuple_iterator_next_1 _)))
 show wpAny _ _ (field (.ref it) 0 >>= _) _ _ s;refine ao (hC gi di (x:=.ref t) rfl ?_);show wpAny _ _ (if(Value.ref t==Value.none)=true then _ else _) _ _ s
 rw[if_neg (show ¬((Value.ref t==Value.none)=true)from gX)];show wpAny _ _ (field (.ref it) 1 >>= _) _ _ s;refine ao (hC gi di (x:=.int i 0) rfl ?_);show wpAny _ _ (seqItems? (.ref t) >>= _) _ _ s;refine ao (mw gt dt ?_);simp only[kG,hx];refine ao (qO (ao (wG gi di (by simp) ?_)));show wpAny _ _ (newExc (.type "StopIteration") [] >>= _) _ _ _;refine ao ?_;simp only[newExc,newTuple];refine ao (pB ?_ (by size_fits));refine ao (m:=wE _ _) (wpAny_of_eq (a:=Value.none) (by first|rfl|(simp only[wE];rfl)) ?_)
 refine pB ?_ (by size_fits);simp only[raiseNew];refine ao (wpAny_handled ?_)
 first|rw[show A.in1.handled=none from hh] | rw[hh]
 refine ao (aT (wpAny_throw ?_));exact k _ _ (((mJ ..).extBut.push _).push _) ⟨_,da _ rfl,rfl⟩
theorem CG{z TI TO i1 i2 l1 l2:Addr}{k1 k2:Nat}{xs ys:Array Value}{x y a b:Value}{Q:Zc}(D:pA z TI TO i1 i2 l1 l2)
  (gz:IsZip s.heap z TI TO .none) (gI:IsPair s.heap TI (.ref i1) (.ref i2)) (gO:IsPair s.heap TO a b)
  (g1:s.heap.IsTupleIter i1 l1 k1) (g2:s.heap.IsTupleIter i2 l2 k2) (t1:s.heap.IsTuple l1 xs) (t2:s.heap.IsTuple l2 ys) (hx:xs[k1]?=some x) (hy:ys[k2]?=some y)
  (k:∀h',IsZip h' z TI TO (rawInt s.heap.objs.size)->IsPair h' TO x y->h'.IsTupleIter i1 l1 (k1+1)->h'.IsTupleIter i2 l2 (k2+1)->IsPair h' s.heap.objs.size x y->h'.objs.size=s.heap.objs.size+1 ->
   (∀c o,c≠z->c≠TO->c≠i1->c≠i2->s.heap.get? c=some o->h'.get? c=some o)->Q (.ref s.heap.objs.size) { s with heap:=h' }) :
  wpAny (model prog w) A (cE.«zip.__next__» ⟨[.ref z],[]⟩) (fun fin s'=>∃v,fin=.done (.ret v)/\Q v s') E s:=by
 show wpAny _ _ (field (.ref z) 2 >>= _) _ _ _;refine ao (hC gz rfl (x:=.bool false) rfl ?_);show wpAny _ _ (field (.ref z) 3 >>= _) _ _ _;refine ao (hC gz rfl (x:=.ref TI) rfl ?_);refine ao (mw gI rfl ?_);show wpAny _ _ (wD (.ref z) >>= _) _ _ _;refine ao ?_;unfold wD;refine ao (hC gz rfl (x:=.none) rfl (aT ?_));simp only[if_true];refine ao (qO ?_);refine ao (hC gz rfl (x:=.ref TO) rfl ?_);refine ao (pp gz (by simp) fun m₁ gz₁ u₁=>?_)
 replace gz₁:IsZip m₁ z TI TO .ellipsis:=gz₁
 refine ao ?_;simp only[List.zipIdx_cons,List.zipIdx_nil,sP,List.forIn_nil];refine ao (ao (wC ?_));show wpAny _ _ (kC (.ref i1) >>= _) _ _ _;refine ao (jW (g1.extBut u₁.extBut D.i1z) (t1.extBut u₁.extBut D.l1z) hx fun m₂ g1₂ u₂=>aT ?_);have gO₂:IsPair m₂ TO a b:=u₂.extBut _ _ D.TOi1 (u₁.extBut _ _ D.TOz gO);refine ao (mw gO₂ rfl ?_);refine ao (wpAny_updateSeq_pair gO₂ fun m₃ gO₃ u₃=>?_)
 replace gO₃:IsPair m₃ TO x b:=gO₃
 refine ao (wpAny_letGo (aT ?_));refine ao (ao (wC ?_));show wpAny _ _ (kC (.ref i2) >>= _) _ _ _;refine ao (jW (((g2.extBut u₁.extBut D.i2z).extBut u₂.extBut D.i12.symm).extBut u₃.extBut D.TOi2.symm)
  (((t2.extBut u₁.extBut D.l2z).extBut u₂.extBut D.l2i1).extBut u₃.extBut D.l2TO) hy fun m₄ g2₄ u₄=>aT ?_)
 have gO₄:IsPair m₄ TO x b:=u₄.extBut _ _ D.TOi2 gO₃;refine ao (mw gO₄ rfl ?_);refine ao (wpAny_updateSeq_pair gO₄ fun m₅ gO₅ u₅=>?_)
 replace gO₅:IsPair m₅ TO x y:=gO₅
 refine ao (wpAny_letGo (aT (aT ?_)));refine ao (mw gO₅ rfl ?_);refine ao (wpAny_newTuple ?_);have esz:m₅.objs.size=s.heap.objs.size:=by rw[u₅.1,u₄.1,u₃.1,u₂.1,u₁.1]
 have gz₅:IsZip m₅ z TI TO .ellipsis:=u₅.extBut _ _ D.TOz.symm (u₄.extBut _ _ D.i2z.symm (u₃.extBut _ _ D.TOz.symm (u₂.extBut _ _ D.i1z.symm gz₁)));have kp₅:∀c o,c≠z->c≠TO->c≠i1->c≠i2->s.heap.get? c=some o->m₅.get? c=some o:=fun c o c1 c2 c3 c4 e =>
  u₅.extBut _ _ c2 (u₄.extBut _ _ c4 (u₃.extBut _ _ c2 (u₂.extBut _ _ c3 (u₁.extBut _ _ c1 e))))
 have g1₅:m₅.IsTupleIter i1 l1 (k1+1):=((g1₂.extBut u₃.extBut D.TOi1.symm).extBut u₄.extBut D.i12).extBut u₅.extBut D.TOi1.symm;have g2₅:m₅.IsTupleIter i2 l2 (k2+1):=g2₄.extBut u₅.extBut D.TOi2.symm;have zlt:z<m₅.objs.size:=aU gz₅;show wpAny _ _ (cE.SmallTypes.ownedTupleHandOut (.ref z) (.ref m₅.objs.size) >>= _) _ _ _;refine ao ?_;unfold cE.SmallTypes.ownedTupleHandOut;have gz₆:IsZip (m₅.push { cls:=.type "tuple",data:=.seq #[x,y] }) z TI TO .ellipsis:=bq _ gz₅;refine ao (pp gz₆ (by simp) fun m₇ gz₇ u₇=>?_)
 replace gz₇:IsZip m₇ z TI TO (rawInt m₅.objs.size):=gz₇
 refine pp gz₇ (by simp) fun m₈ gz₈ u₈=>?_
 replace gz₈:IsZip m₈ z TI TO (rawInt m₅.objs.size):=gz₈
 have up:∀c o,c≠z->m₅.get? c=some o->m₈.get? c=some o:=fun c o c1 e=>u₈.extBut _ _ c1 (u₇.extBut _ _ c1 (bq _ e));have gT₈:IsPair m₈ m₅.objs.size x y:=u₈.extBut _ _ (h_ zlt) (u₇.extBut _ _ (h_ zlt) (da _ rfl));have ez8:m₈.objs.size=m₅.objs.size+1:=by rw[u₈.1,u₇.1,qG]
 rw[esz]at gz₈ gT₈ ez8;refine aT ⟨_,rfl,?_⟩;show Q (.ref m₅.objs.size) _;rw[esz];refine k m₈ gz₈ (up _ _ D.TOz gO₅) ?_ ?_ gT₈ ez8 fun c o c1 c2 c3 c4 e=>up c o c1 (kp₅ c o c1 c2 c3 c4 e)
 ·obtain⟨o,e,r⟩:=g1₅;exact⟨o,up _ o D.i1z e,r⟩
 ·obtain⟨o,e,r⟩:=g2₅;exact⟨o,up _ o D.i2z e,r⟩
theorem Eg{z TI TO i1 i2 l1 l2:Addr}{k1 k2:Nat}{xs ys:Array Value}{a b:Value}{Q:Fin->Shared->Prop}(hh:A.handled=none)(D:pA z TI TO i1 i2 l1 l2)
  (gz:IsZip s.heap z TI TO .none) (gI:IsPair s.heap TI (.ref i1) (.ref i2)) (gO:IsPair s.heap TO a b)
  (g1:s.heap.IsTupleIter i1 l1 k1) (g2:s.heap.IsTupleIter i2 l2 k2) (t1:s.heap.IsTuple l1 xs) (t2:s.heap.IsTuple l2 ys) (fin:xs[k1]?=none∨ys[k2]?=none)
  (k:∀h' e,(∀c o,c≠z->c≠TO->c≠i1->c≠i2->s.heap.get? c=some o->h'.get? c=some o)->(∃o,h'.get? e=some o/\o.cls=.type "StopIteration")->E (.ref e) { s with heap:=h' }) :
  wpAny (model prog w) A (cE.«zip.__next__» ⟨[.ref z],[]⟩) Q E s:=by
 show wpAny _ _ (field (.ref z) 2 >>= _) _ _ _;refine ao (hC gz rfl (x:=.bool false) rfl ?_);show wpAny _ _ (field (.ref z) 3 >>= _) _ _ _;refine ao (hC gz rfl (x:=.ref TI) rfl ?_);refine ao (mw gI rfl ?_);show wpAny _ _ (wD (.ref z) >>= _) _ _ _;refine ao ?_;unfold wD;refine ao (hC gz rfl (x:=.none) rfl (aT ?_));simp only[if_true];refine ao (qO ?_);refine ao (hC gz rfl (x:=.ref TO) rfl ?_);refine ao (pp gz (by simp) fun m₁ gz₁ u₁=>?_)
 replace gz₁:IsZip m₁ z TI TO .ellipsis:=gz₁
 refine ao ?_;simp only[List.zipIdx_cons,List.zipIdx_nil,sP,List.forIn_nil];refine ao (ao (wC ?_));show wpAny _ _ (kC (.ref i1) >>= _) _ _ _;cases hx:xs[k1]? with
 |none =>
  refine ao (qR hh (g1.extBut u₁.extBut D.i1z) (t1.extBut u₁.extBut D.l1z) hx fun m₂ e u₂ he=>?_);obtain⟨oe,ge,ce⟩:=he;have gz₂:IsZip m₂ z TI TO .ellipsis:=u₂ _ _ D.i1z.symm gz₁;have nez:e≠z:=fun q=>by subst q;rw[gz₂]at ge;cases ge;simp at ce
  refine pp gz₂ (by simp) fun m₃ _ u₃=>k m₃ e (fun c o c1 _ c3 _ q=>u₃.extBut _ _ c1 (u₂ _ _ c3 (u₁.extBut _ _ c1 q))) ⟨oe,u₃.extBut _ _ nez ge,ce⟩
 |some x =>
  have hy:ys[k2]?=none:=by rcases fin with q|q;rw[hx]at q;cases q;exact q
  refine ao (jW (g1.extBut u₁.extBut D.i1z) (t1.extBut u₁.extBut D.l1z) hx fun m₂ g1₂ u₂=>aT ?_);have gO₂:IsPair m₂ TO a b:=u₂.extBut _ _ D.TOi1 (u₁.extBut _ _ D.TOz gO);refine ao (mw gO₂ rfl ?_);refine ao (wpAny_updateSeq_pair gO₂ fun m₃ gO₃ u₃=>?_);refine ao (wpAny_letGo (aT ?_));refine ao (ao (wC ?_));show wpAny _ _ (kC (.ref i2) >>= _) _ _ _;refine ao (qR hh (((g2.extBut u₁.extBut D.i2z).extBut u₂.extBut D.i12.symm).extBut u₃.extBut D.TOi2.symm)
   (((t2.extBut u₁.extBut D.l2z).extBut u₂.extBut D.l2i1).extBut u₃.extBut D.l2TO) hy fun m₄ e u₄ he=>?_)
  obtain⟨oe,ge,ce⟩:=he;have gz₄:IsZip m₄ z TI TO .ellipsis:=u₄ _ _ D.i2z.symm (u₃.extBut _ _ D.TOz.symm (u₂.extBut _ _ D.i1z.symm gz₁));have nez:e≠z:=fun q=>by subst q;rw[gz₄]at ge;cases ge;simp at ce
  refine pp gz₄ (by simp) fun m₅ _ u₅=>k m₅ e (fun c o c1 c2 c3 c4 q=>u₅.extBut _ _ c1 (u₄ _ _ c4 (u₃.extBut _ _ c2 (u₂.extBut _ _ c3 (u₁.extBut _ _ c1 q))))) ⟨oe,u₅.extBut _ _ nez ge,ce⟩
theorem u_{z TI TO i1 i2 l1 l2:Addr}{k1 k2:Nat}{xs ys:Array Value}{x y a b:Value}{Q:Option Value->Shared->Prop}(D:pA z TI TO i1 i2 l1 l2)
  (gz:IsZip s.heap z TI TO .none) (gI:IsPair s.heap TI (.ref i1) (.ref i2)) (gO:IsPair s.heap TO a b)
  (g1:s.heap.IsTupleIter i1 l1 k1) (g2:s.heap.IsTupleIter i2 l2 k2) (t1:s.heap.IsTuple l1 xs) (t2:s.heap.IsTuple l2 ys) (hx:xs[k1]?=some x) (hy:ys[k2]?=some y)
  (k:∀h',IsZip h' z TI TO (rawInt s.heap.objs.size)->IsPair h' TO x y->h'.IsTupleIter i1 l1 (k1+1)->h'.IsTupleIter i2 l2 (k2+1)->IsPair h' s.heap.objs.size x y->h'.objs.size=s.heap.objs.size+1 ->
   (∀c o,c≠z->c≠TO->c≠i1->c≠i2->s.heap.get? c=some o->h'.get? c=some o)->Q (some (.ref s.heap.objs.size)) { s with heap:=h' }) :
  wpAny (model prog w) A (pyNext (.ref z)) Q E s:=by
 have hT:s.TypeIs (.ref z) "zip":=⟨_,gz,rfl⟩;unfold pyNext;exact ao (wB (pr (name:=pq "__next__") hT wA
  (wa wA hT F.entry_zip_next
   (CG D gz gI gO g1 g2 t1 t2 hx hy fun h' a1 a2 a3 a4 a5 a6 a7=>aT (k h' a1 a2 a3 a4 a5 a6 a7)) (F.args_zip_next_1 _))))
theorem xE{z TI TO i1 i2 l1 l2:Addr}{k1 k2:Nat}{xs ys:Array Value}{a b:Value}{Q:Option Value->Shared->Prop}(hh:A.handled=none)(D:pA z TI TO i1 i2 l1 l2)
  (gz:IsZip s.heap z TI TO .none) (gI:IsPair s.heap TI (.ref i1) (.ref i2)) (gO:IsPair s.heap TO a b)
  (g1:s.heap.IsTupleIter i1 l1 k1) (g2:s.heap.IsTupleIter i2 l2 k2) (t1:s.heap.IsTuple l1 xs) (t2:s.heap.IsTuple l2 ys) (fin:xs[k1]?=none∨ys[k2]?=none)
  (k:∀h',(∀c o,c≠z->c≠TO->c≠i1->c≠i2->s.heap.get? c=some o->h'.get? c=some o)->Q none { s with heap:=h' }):wpAny (model prog w) A (pyNext (.ref z)) Q E s:=by
 have hT:s.TypeIs (.ref z) "zip":=⟨_,gz,rfl⟩;unfold pyNext;refine ao (wB (pr (name:=pq "__next__") hT wA
  (wa wA hT F.entry_zip_next (Eg hh D gz gI gO g1 g2 t1 t2 fin fun h' e kp he=>?_) (F.args_zip_next_1 _))))
 obtain⟨o,ho,hc⟩:=he;refine ao (BE (T:="StopIteration") (b:=true) ⟨o,ho,hc⟩ isSubtype_stop ?_);exact aT (k _ kp)
end
abbrev JG(h:Heap)(l1:Addr):Heap:=h.push { cls:=.type "tuple_iterator",data:=.fields #[.ref l1,.int 0 0] }
abbrev JF(h:Heap)(l1 l2:Addr):Heap:=(JG h l1).push { cls:=.type "tuple_iterator",data:=.fields #[.ref l2,.int 0 0] }
abbrev JE(h:Heap)(l1 l2:Addr):Heap:=(JF h l1 l2).push { cls:=.type "tuple",data:=.seq #[.ref h.objs.size,.ref (JG h l1).objs.size] }
abbrev JD(h:Heap)(l1 l2:Addr):Heap:=(JE h l1 l2).push { cls:=.type "tuple",data:=.seq #[.none,.none] }
abbrev IU(h:Heap)(l1 l2:Addr):Heap:=(JD h l1 l2).push { cls:=.type "zip",data:=.fields #[.none,.bool false,.bool false,.ref (JF h l1 l2).objs.size,.ref (JE h l1 l2).objs.size] }
theorem AS(l1 l2:Addr)(xs ys:Array Value):
  Meets (cE.«zip.__new__» ⟨[.type "zip",.ref l1,.ref l2],[]⟩) (fun _ R s=>s.heap.IsTuple l1 xs/\s.heap.IsTuple l2 ys /\
   R (.ok (.ret (.ref (JD s.heap l1 l2).objs.size))) { s with heap:=IU s.heap l1 l2 }) :=
 .of_wp fun prog w A R s h=>by
  obtain⟨hp,g,d,tk,os⟩:=s;obtain⟨q1,q2,h⟩:=h;have hsub:=sub_zip;have T1:Heap.IsTuple (Shared.heap ⟨hp,g,d,tk,os⟩) l1 xs:=q1;have T2:Heap.IsTuple (Shared.heap ⟨hp.push { cls:=.type "tuple_iterator",data:=.fields #[.ref l1,.int 0 0] },g,d,tk,os⟩) l2 ys:=Heap.IsTuple.push q2 _
  wp_walk using Bz T1,Bz T2
  exact⟨_,rfl,h⟩
section
variable{prog:bO}{w:World}{A:Around}{E:Zc}{s:Shared}
theorem DM{l1 l2:Addr}{xs ys:Array Value}{Q:Zc}(t1:s.heap.IsTuple l1 xs)(t2:s.heap.IsTuple l2 ys)
  (k:∀h',IsZip h' (s.heap.objs.size+4) (s.heap.objs.size+2) (s.heap.objs.size+3) .none->IsPair h' (s.heap.objs.size+2) (.ref s.heap.objs.size) (.ref (s.heap.objs.size+1)) ->
   IsPair h' (s.heap.objs.size+3) .none .none->h'.IsTupleIter s.heap.objs.size l1 0->h'.IsTupleIter (s.heap.objs.size+1) l2 0->(∀c o,s.heap.get? c=some o->h'.get? c=some o)->Q (.ref (s.heap.objs.size+4)) { s with heap:=h' }) :
  wpAny (model prog w) A (call (.type "zip") [.ref l1,.ref l2]) Q E s:=by
 refine callType_new F.called_zip (by decide) (F.typeCall_zip_2 _ _) (F.newCall_zip_2 _ _) (fun obj=>F.args_object_init_3 obj _ _) F.entry_zip_new
  (AS l1 l2 xs ys) ⟨t1,t2,?_⟩
 have z1:(JG s.heap l1).objs.size=s.heap.objs.size+1:=qG ..;have z2:(JF s.heap l1 l2).objs.size=s.heap.objs.size+2:=by rw[qG,z1]
 have z3:(JE s.heap l1 l2).objs.size=s.heap.objs.size+3:=by rw[qG,z2]
 have z4:(JD s.heap l1 l2).objs.size=s.heap.objs.size+4:=by rw[qG,z3]
 have g5:(IU s.heap l1 l2).get? (JD s.heap l1 l2).objs.size=some _:=da _ rfl;have g4:(IU s.heap l1 l2).get? (JE s.heap l1 l2).objs.size=some _:=bq _ (da _ rfl);have g3:(IU s.heap l1 l2).get? (JF s.heap l1 l2).objs.size=some _:=bq _ (bq _ (da _ rfl));have g2:(IU s.heap l1 l2).get? (JG s.heap l1).objs.size=some _:=bq _ (bq _ (bq _ (da _ rfl)));have g1:(IU s.heap l1 l2).get? s.heap.objs.size=some _:=bq _ (bq _ (bq _ (bq _ (da _ rfl))));show _/\_;rw[z2,z3,z4]at g5;rw[z1,z2]at g3;rw[z3]at g4;rw[z1]at g2;rw[z4];exact⟨⟨_,g5,rfl⟩,k _ g5 g3 g4 ⟨_,g1,rfl,rfl⟩ ⟨_,g2,rfl,rfl⟩ fun c o x =>
  bq _ (bq _ (bq _ (bq _ (bq _ x))))⟩
end
def Jx(K:Za)(a b:Addr):It :=
  ⟨fun i H=>∃xs ys x y,bE K H a xs/\bE K H b ys/\xs[i]?=some x/\ys[i]?=some y,
   fun i H x H'=>∃p u v,x=.ref p/\H p=none/\(∀xs,bE K H a xs->xs[i]?=some u)/\(∀ys,bE K H b ys->ys[i]?=some v)/\H'=upd H p (.tup [u,v]),
   fun i H=>∃xs ys,bE K H a xs/\bE K H b ys/\(xs.length<=i∨ys.length<=i)⟩
theorem CH{P:bO}{w:World}{K:Za}{es:List Expr}{kx:Nat}{J9:Pos}(a b z TI TO i1 i2:Addr)(D:pA z TI TO i1 i2 a b):
  rO P w K (.Tuple es kx J9) (Jx K a b) [z,TI,TO,i1,i2] z (fun i h=>IsZip h z TI TO .none/\IsPair h TI (.ref i1) (.ref i2)/\(∃a b,IsPair h TO a b)/\h.IsTupleIter i1 a i/\h.IsTupleIter i2 b i) where
 mem:=by simp
 obj:=fun i h st c hc=>by
  obtain⟨hz,hTI,⟨u,v,hTO⟩,h1,h2⟩:=st;simp only[cy,sN,or_false]at hc;rcases hc with rfl|rfl|rfl|rfl|rfl
  ·exact⟨_,hz,fun v z=>by cases z⟩
  ·exact⟨_,hTI,fun v z=>by cases z⟩
  ·exact⟨_,hTO,fun v z=>by cases z⟩
  ·obtain⟨o,e,c,d⟩:=h1;exact⟨o,e,fun v z=>by rw[d]at z;cases z⟩
  ·obtain⟨o,e,c,d⟩:=h2;exact⟨o,e,fun v z=>by rw[d]at z;cases z⟩
 keep:=fun i h h' st k=>by
  obtain⟨hz,hTI,⟨u,v,hTO⟩,⟨o1,e1,r1⟩,⟨o2,e2,r2⟩⟩:=st;exact⟨k z (by simp) _ hz,k TI (by simp) _ hTI,⟨u,v,k TO (by simp) _ hTO⟩,⟨o1,k i1 (by simp) o1 e1,r1⟩,⟨o2,k i2 (by simp) o2 e2,r2⟩⟩
 item:=by
  intro X hP hw hK hc i J5 s σ H E I hf st hg;subst hP hw hK;obtain⟨hz,hTI,⟨u0,v0,hTO⟩,h1,h2⟩:=st;obtain⟨xs,ys,x,y,hqx,hqy,hx,hy⟩:=hg;obtain⟨its,rx,px,zx⟩:=I.tuple hqx;obtain⟨jts,ry,py,zy⟩:=I.tuple hqy;obtain⟨u,hu,ru⟩:=rx.get hx;obtain⟨v,hv,rv⟩:=ry.get hy;refine u_ D hz hTI hTO h1 h2 (xs:=its.toArray) (ys:=jts.toArray) px py (x:=u) (y:=v) (by simpa using hu) (by simpa using hv) fun h' a1 a2 a3 a4 a5 a6 hk=>?_;refine⟨_,rfl,wpAny_letOwnedTupleGo_zip (s:={ s with heap:=h' }) a1 fun h2' hz2 hs2=>?_⟩;have hs2':i3 z h' h2':=hs2;have nsz:s.heap.objs.size≠z:=h_ (aU hz);have nsTO:s.heap.objs.size≠TO:=h_ (aU hTO);have nsTI:s.heap.objs.size≠TI:=h_ (aU hTI);have nsi1:s.heap.objs.size≠i1:=by obtain⟨o,ho,_⟩:=h1;exact h_ (aU ho)
  have nsi2:s.heap.objs.size≠i2:=by obtain⟨o,ho,_⟩:=h2;exact h_ (aU ho)
  have ht2:IsPair h2' s.heap.objs.size u v:=hs2'.extBut _ _ nsz a5;have I2:Inv X J5 σ (upd H s.heap.objs.size (.tup [x,y])) { s with heap:=h2',toks:=s.toks }:=by
   refine I.turnedNew (ch:=[z,TI,TO,i1,i2]) hf (fun c o hc q=>?_) ⟨_,ht2⟩ (fun _ z=>nomatch z) ⟨by show 2<=aj;decide,[u,v],.cons ru (.cons rv .nil),⟨_,ht2,rfl,_,rfl⟩⟩;have n1:c≠z:=fun q=>hc (by simp[q]);exact hs2'.extBut _ _ n1 (hk c o n1 (fun q=>hc (by simp[q])) (fun q=>hc (by simp[q])) (fun q=>hc (by simp[q])) q)
  have a3':h2'.IsTupleIter i1 a (i+1):=by obtain⟨o,e,r⟩:=a3;exact⟨o,hs2'.extBut _ _ D.i1z e,r⟩
  have a4':h2'.IsTupleIter i2 b (i+1):=by obtain⟨o,e,r⟩:=a4;exact⟨o,hs2'.extBut _ _ D.i2z e,r⟩
  refine⟨.ref s.heap.objs.size,_,I2,rfl,⟨_,x,y,rfl,I.fresh,fun zs hz=>by rw[I.tuple_inj hz hqx];exact hx,fun zs hz=>by rw[I.tuple_inj hz hqy];exact hy,rfl⟩,⟨hz2,hs2'.extBut _ _ D.TIz (hk _ _ D.TIz D.TITO D.TIi1 D.TIi2 hTI),⟨_,_,hs2'.extBut _ _ D.TOz a2⟩,a3',a4'⟩,fun c hc=>?_⟩;have hcn:=(hf c hc).1;simp only[cy,sN,or_false]at hc;have ne:c≠s.heap.objs.size:=by
   rcases hc with rfl|rfl|rfl|rfl|rfl
   ·exact nsz.symm
   ·exact nsTI.symm
   ·exact nsTO.symm
   ·exact nsi1.symm
   ·exact nsi2.symm
  rw[ah ne];exact hcn
 done:=by
  intro X hP hw hK hc i J5 s σ H E I hf st hg;subst hP hw hK;obtain⟨hz,hTI,⟨u0,v0,hTO⟩,h1,h2⟩:=st;obtain⟨xs,ys,hqx,hqy,hend⟩:=hg;obtain⟨its,rx,px,zx⟩:=I.tuple hqx;obtain⟨jts,ry,py,zy⟩:=I.tuple hqy;have lx:=rx.length;have ly:=ry.length;refine xE (I.ok.hd hc) D hz hTI hTO h1 h2 (xs:=its.toArray) (ys:=jts.toArray) px py (by rcases hend with q|q;exact .inl (by simp;omega);exact .inr (by simp;omega)) fun h' hk=>⟨rfl,?_⟩;have tr:∀c q,H c=some q->c∉[z,TI,TO,i1,i2]:=fun c q e m=>by rw[(hf c m).1]at e;cases e
  have kk:∀c o,c∉[z,TI,TO,i1,i2]->s.heap.get? c=some o->h'.get? c=some o:=fun c o hc q=>hk c o (fun q=>hc (by simp[q])) (fun q=>hc (by simp[q])) (fun q=>hc (by simp[q])) (fun q=>hc (by simp[q])) q;refine I.step (g':=s.gens) (d':=s.drawn) (t':=s.toks) (ch:=[z,TI,TO,i1,i2]) (fun c hc=>?_) (fun c o _ _ hc e _=>kk c o hc e) (fun c o _ _ hc e _=>⟨o.slots,kk c o hc e⟩) (fun _ _ _ _ n=>n) (fun c o hc e=>⟨o,kk c o hc e⟩) (fun _ _ e=>e) (fun _ _ _ e=>e) (fun c ps e=>⟨#[],by rw[e];simp⟩) (fun m hm=>?_) (fun c q e=>?_) I.bare
  ·obtain⟨f0,f1,f2,f3,f4,f5⟩:=hf c hc;exact⟨f3,f1,f4,f5⟩
  ·obtain⟨q,es',ep,ho,r⟩:=hm;exact⟨q,es',ep,kk _ q (fun z=>(hf _ z).2.1 rfl) ho,r⟩
  ·refine(I.hok c q e).stay (fun d v hd q'=>kk d v ?_ q') (fun _ q=>q) fun _ _ q=>q;rcases hd with z|z
   ·subst z;exact tr _ _ e
   ·exact tr _ _ z
 self:=fun _ _ _ _ _ st h=>wI st.1 h
section
variable{X:Cx}{p pos:Pos}{es:List Expr}{kx:Nat}{J9:Pos}
def Fy(K:Za)(ta:TA):TI:=fun σ H R=>ta σ H fun vs H1=>∃a b,vs=[.ref a,.ref b]/\(((∃xs,az K H1 a xs)/\(∃ys,az K H1 b ys)/\R (JO K a b) H1)∨((∃xs,bE K H1 a xs)/\(∃ys,bE K H1 b ys)/\R (Jx K a b) H1))
theorem BT{a b:Expr}{ta:TA}(hg:Gl X "zip")(hm:X.mg "zip"=none)(ha:PA X [a,b] ta)(hs:aF [a,b] X.env=[(false,eval a X.env),(false,eval b X.env)]:=by rfl)(hs2:aF [b] X.env=[(false,eval b X.env)]:=by rfl):
  PI X (.Tuple es kx J9) (.Call (.Name "zip" p) [a,b] [] pos) (Fy X.K ta):=by
 intro J5 s σ H R I h;refine Call_ (qd I hg hm boot_zip (yC (cz (ha pos J5 s σ H _ I h) fun us s1 ⟨vs,H1,I1,r1,q1⟩=>?_) (by rw[hs,hs2]) (by rw[hs2];rfl)));obtain⟨l1,l2,e,q⟩:=q1;subst e;obtain⟨u,v,rfl,ru,rv⟩:=vals2 r1;cases ru;cases rv;have fin:∀b∈[s1.heap.objs.size+4,s1.heap.objs.size+2,s1.heap.objs.size+3,s1.heap.objs.size,s1.heap.objs.size+1],mm X J5 H1 b:=fun b hb=>by
  have hb':s1.heap.objs.size<=b:=by
   simp only[cy,sN,or_false]at hb;rcases hb with rfl|rfl|rfl|rfl|rfl<;>omega
  exact I1.fpOk hb' (I1.hok.fresh hb')
 rcases q with⟨⟨xs,hx⟩,⟨ys,hy⟩,q⟩|⟨⟨xs,hx⟩,⟨ys,hy⟩,q⟩
 ·obtain⟨its,rx,px,zx⟩:=I1.list hx;obtain⟨jts,ry,py,zy⟩:=I1.list hy;obtain⟨o1,n1,e1,_⟩:=id px;obtain⟨o2,n2,e2,_⟩:=id py;refine call_zip_2 px.isList py.isList fun h' a1 a2 a3 a4 a5 a6 hk=>?_;refine wI (s:={ s1 with heap:=h' }) a1 ?_;have hk':∀b o,s1.heap.get? b=some o->h'.get? b=some o:=hk;have I2:Inv X J5 σ H1 { s1 with heap:=h' }:=I1.kept (t':=s1.toks) hk';exact⟨_,_,_,_,H1,rfl,I2,Em l1 l2 _ _ _ _ _ (zipApart_new (aU e1) (aU e2)),⟨a1,a2,⟨_,_,a3⟩,a4,a5⟩,fin,q⟩
 ·obtain⟨its,rx,px,zx⟩:=I1.tuple hx;obtain⟨jts,ry,py,zy⟩:=I1.tuple hy;obtain⟨o1,e1,_⟩:=id px;obtain⟨o2,e2,_⟩:=id py;refine DM (xs:=its.toArray) (ys:=jts.toArray) px py fun h' a1 a2 a3 a4 a5 hk=>?_;refine wI (s:={ s1 with heap:=h' }) a1 ?_;have hk':∀b o,s1.heap.get? b=some o->h'.get? b=some o:=hk;have I2:Inv X J5 σ H1 { s1 with heap:=h' }:=I1.kept (t':=s1.toks) hk';exact⟨_,_,_,_,H1,rfl,I2,CH l1 l2 _ _ _ _ _ (zipApart_new (aU e1) (aU e2)),⟨a1,a2,⟨_,_,a3⟩,a4,a5⟩,fin,q⟩
end
inductive DT where
 |k (a:fw)
 |t (l:List DT)
 |s (l:List DT)
mutual
def H_:(x y:DT)->Decidable (x=y)
 |.k a,.k b=>if h:a=b then Decidable.isTrue (by rw[h])else Decidable.isFalse fun e=>h (by injection e)
 |.t l,.t m=>match decDTs l m with
  |Decidable.isTrue h=>Decidable.isTrue (by rw[h])
  |Decidable.isFalse h=>Decidable.isFalse fun e=>h (by injection e)
 |.s l,.s m=>match decDTs l m with
  |Decidable.isTrue h=>Decidable.isTrue (by rw[h])
  |Decidable.isFalse h=>Decidable.isFalse fun e=>h (by injection e)
 |.k _,.t _=>Decidable.isFalse nofun
 |.k _,.s _=>Decidable.isFalse nofun
 |.t _,.k _=>Decidable.isFalse nofun
 |.t _,.s _=>Decidable.isFalse nofun
 |.s _,.k _=>Decidable.isFalse nofun
 |.s _,.t _=>Decidable.isFalse nofun
def decDTs:(x y:List DT)->Decidable (x=y)
 |[],[]=>Decidable.isTrue rfl
 |[],_::_=>Decidable.isFalse nofun
 |_::_,[]=>Decidable.isFalse nofun
 |a::l,b::m=>match H_ a b with
  |Decidable.isTrue h=>match decDTs l m with
   |Decidable.isTrue h'=>Decidable.isTrue (by rw[h,h'])
   |Decidable.isFalse h'=>Decidable.isFalse fun e=>h' (by injection e)
  |Decidable.isFalse h=>Decidable.isFalse fun e=>h (by injection e)
end
instance:DecidableEq DT:=H_
mutual
def DT.depth:DT->Nat
 |.k _=>0
 |.t l=>DT.depths l+1
 |.s l=>DT.depths l+1
def DT.depths:List DT->Nat
 |[]=>0
 |a::r=>max (DT.depth a) (DT.depths r)
end
mutual
def sv(h:Heap):DT->Value->Prop
 |.k a,v=>c7 a v=true
 |.t l,v=>∃a items,v=.ref a/\h.IsTuple a items/\DAts h l items.toList
 |.s l,v=>∃a items,v=.ref a/\h.IsList a items/\DAts h l items.toList
def DAts(h:Heap):List DT->List Value->Prop
 |[],vs=>vs=[]
 |k::r,vs=>∃v us,vs=v::us/\sv h k v/\DAts h r us
end
theorem DAts.length{h:Heap}:∀{xs:List DT}{vs:Zf},DAts h xs vs->xs.length=vs.length
 |[],vs,e=>by have e':vs=[]:=e;rw[e'];rfl
 |x::xs,vs,e=>by
  obtain⟨v,us,rfl,_,h2⟩:=e;simp[DAts.length h2]
theorem DAts.get{h:Heap}:∀{xs:List DT}{vs:Zf}{i:Nat}{v:Value},DAts h xs vs->vs[i]?=some v->∃x,xs[i]?=some x/\sv h x v
 |[],vs,i,v,e,q=>by have e':vs=[]:=e;subst e';simp at q
 |x::xs,vs,i,v,e,q=>by
  obtain⟨u,us,rfl,h1,h2⟩:=e;cases i with
  |zero =>
   simp at q;subst q;exact⟨x,rfl,h1⟩
  |succ i =>
   obtain⟨y,e1,e2⟩:=DAts.get h2 (i:=i) (v:=v) (by simpa using q);exact⟨y,by simpa using e1,e2⟩
theorem DT.depths_get{l:List DT}{x:DT}{i d:Nat}(h:DT.depths l<=d)(e:l[i]?=some x):x.depth<=d:=by
 induction l generalizing i with
 |nil=>simp at e
 |cons a r ih =>
  have h':max a.depth (DT.depths r)<=d:=h;cases i with
  |zero=>simp at e;subst e;omega
  |succ i=>exact ih (by omega) (by simpa using e)
theorem AZ{h:Heap}{a:Addr}{i j:Array Value}(x:h.IsList a i)(y:h.IsList a j):i=j:=by
 obtain⟨o,ho,_,n,hd⟩:=x;obtain⟨o',ho',_,n',hd'⟩:=y;rw[ho]at ho';cases ho';rw[hd]at hd';injection hd'
theorem zJ{h:Heap}{a:Addr}{i j:Array Value}(x:h.IsTuple a i)(y:h.IsTuple a j):i=j:=by
 obtain⟨o,ho,_,n,hd⟩:=x;obtain⟨o',ho',_,n',hd'⟩:=y;rw[ho]at ho';cases ho';rw[hd]at hd';injection hd'
theorem jw{h:Heap}{a:Addr}{i j:Array Value}(x:h.IsList a i)(y:h.IsTuple a j):False:=by
 obtain⟨o,ho,hc,_⟩:=x;obtain⟨o',ho',hc',_⟩:=y;rw[ho]at ho';cases ho';rw[hc]at hc';simp at hc'
theorem vK{a b:fw}{v:Value}(h1:c7 a v=true)(h2:c7 b v=true):a=b:=by
 rcases av h1 with⟨i,t,rfl,rfl⟩|⟨i,t,rfl,rfl⟩
 ·rcases av h2 with⟨j,u,rfl,e⟩|⟨j,u,rfl,e⟩
  ·cases e;rfl
  ·cases e
 ·rcases av h2 with⟨j,u,rfl,e⟩|⟨j,u,rfl,e⟩
  ·cases e
  ·cases e;rfl
theorem iw{a:fw}{b:Addr}(h:c7 a (.ref b)=true):False:=by
 rcases av h with⟨_,_,_,e⟩|⟨_,_,_,e⟩<;>cases e
theorem sv.inj{h:Heap}:∀(d:Nat) {x y:DT}{v:Value},x.depth<=d->sv h x v->sv h y v->x=y:=by
 have key:∀(d:Nat) (ih:∀{x y:DT}{v:Value},x.depth<=d->sv h x v->sv h y v->x=y) (xs ys:List DT) (vs:Zf),DT.depths xs<=d->DAts h xs vs->DAts h ys vs->xs=ys:=by
  intro d ih xs
  induction xs with
  |nil =>
   intro ys vs _ hx hy;have hx':vs=[]:=hx;subst hx';cases ys with
   |nil=>rfl
   |cons y ys=>obtain⟨_,_,e,_⟩:=hy;cases e
  |cons x xs ihl =>
   intro ys vs hd hx hy;obtain⟨v,us,rfl,hx1,hx2⟩:=hx;cases ys with
   |nil=>have hy':v::us=[]:=hy;cases hy'
   |cons y ys =>
    obtain⟨v',us',e,hy1,hy2⟩:=hy;cases e;have hd':max x.depth (DT.depths xs)<=d:=hd;rw[ih (by omega) hx1 hy1,ihl ys us (by omega) hx2 hy2]
 intro d
 induction d with
 |zero =>
  intro x y v hd hx hy;cases x with
  |t l=>exact absurd hd (by show ¬(DT.depths l+1<=0);omega)
  |s l=>exact absurd hd (by show ¬(DT.depths l+1<=0);omega)
  |k a =>
   cases y with
   |k b=>rw[vK hx hy]
   |t l=>obtain⟨b,_,rfl,_⟩:=hy;exact(iw hx).elim
   |s l=>obtain⟨b,_,rfl,_⟩:=hy;exact(iw hx).elim
 |succ d ih =>
  intro x y v hd hx hy;cases x with
  |k a =>
   cases y with
   |k b=>rw[vK hx hy]
   |t l=>obtain⟨b,_,rfl,_⟩:=hy;exact(iw hx).elim
   |s l=>obtain⟨b,_,rfl,_⟩:=hy;exact(iw hx).elim
  |t l =>
   obtain⟨a,i,rfl,hi,hx⟩:=hx;cases y with
   |k b=>exact(iw hy).elim
   |t m =>
    obtain⟨a',j,e,hj,hy⟩:=hy;cases e;rw[zJ hj hi]at hy;rw[key d (fun h1=>ih h1) l m i.toList (by have:DT.depths l+1<=d+1:=hd;omega) hx hy]
   |s m =>
    obtain⟨a',j,e,hj,hy⟩:=hy;cases e;exact(jw hj hi).elim
  |s l =>
   obtain⟨a,i,rfl,hi,hx⟩:=hx;cases y with
   |k b=>exact(iw hy).elim
   |s m =>
    obtain⟨a',j,e,hj,hy⟩:=hy;cases e;rw[AZ hj hi]at hy;rw[key d (fun h1=>ih h1) l m i.toList (by have:DT.depths l+1<=d+1:=hd;omega) hx hy]
   |t m =>
    obtain⟨a',j,e,hj,hy⟩:=hy;cases e;exact(jw hi hj).elim
theorem fV{l m:List DT}(hl:l.length=m.length):((nS l.length).all fun j=>decide (l[j]?=m[j]?))=decide (l=m):=by
 by_cases e:l=m
 ·subst e;simp
 ·rw[zzr0 e];rw[List.all_eq_false];apply Classical.byContradiction;intro h;apply e;apply List.ext_getElem?;intro i;by_cases hi:i<l.length
  ·apply Classical.byContradiction;intro hne;exact h ⟨i,List.mem_range.mpr hi,by simpa using hne⟩
  ·rw[List.getElem?_eq_none (by omega),List.getElem?_eq_none (by omega)]
section
variable{s:Shared}
theorem HW:∀(d:Nat) {A:Around}{x y:DT}{u v:Value},x.depth<=d->y.depth<=d->A.units+d<cLine->sv s.heap x u->sv s.heap y v->aY A s u v (decide (x=y)):=by
 have leaves:∀{A:Around}{a b:fw}{u v:Value},c7 a u=true->c7 b v=true->aY A s u v (decide (DT.k a=DT.k b)):=by
  intro A a b u v h1 h2;have hd:decide (DT.k a=DT.k b)=decide (a=b):=by
   by_cases e:a=b
   ·subst e;simp
   ·have:¬(DT.k a=DT.k b):=fun z=>e (by injection z);rw[zzr0 this,zzr0 e]
  rw[hd];rcases av h1 with⟨i,t,rfl,rfl⟩|⟨i,t,rfl,rfl⟩
  ·rcases av h2 with⟨j,u,rfl,rfl⟩|⟨j,u,rfl,rfl⟩
   ·rw[xM];exact aY.int_int i t j u
   ·rw[xL];exact aY.int_str i t j u
  ·rcases av h2 with⟨j,u,rfl,rfl⟩|⟨j,u,rfl,rfl⟩
   ·rw[xJ];exact aY.str_int i t j u
   ·rw[xI];have:=aY.str_str (A:=A) (s:=s) i t j u;rwa[show(i==j)=decide (i=j)from by by_cases e:i=j<;>simp[e]]at this
 have kt:∀{A:Around}{a:fw}{u:Value}{b:Addr}{items:Array Value},A.units<cLine->c7 a u=true->s.heap.IsTuple b items->aY A s u (.ref b) false/\aY A s (.ref b) u false:=by
  intro A a u b items hu h1 ht;rcases av h1 with⟨i,t,rfl,rfl⟩|⟨i,t,rfl,rfl⟩
  ·exact⟨aY.int_tuple i t ht hu,aY.tuple_int i t ht hu⟩
  ·exact⟨aY.str_tuple i t ht hu,aY.tuple_str i t ht hu⟩
 have kl:∀{A:Around}{a:fw}{u:Value}{b:Addr}{items:Array Value},A.units<cLine->c7 a u=true->s.heap.IsList b items->aY A s u (.ref b) false/\aY A s (.ref b) u false:=by
  intro A a u b items hu h1 ht;rcases av h1 with⟨i,t,rfl,rfl⟩|⟨i,t,rfl,rfl⟩
  ·exact⟨aY.int_list i t ht hu,aY.list_int i t ht hu⟩
  ·exact⟨aY.str_list i t ht hu,aY.list_str i t ht hu⟩
 intro d
 induction d with
 |zero =>
  intro A x y u v hdx hdy hu hx hy;cases x with
  |t l=>exact absurd hdx (by show ¬(DT.depths l+1<=0);omega)
  |s l=>exact absurd hdx (by show ¬(DT.depths l+1<=0);omega)
  |k a =>
   cases y with
   |t l=>exact absurd hdy (by show ¬(DT.depths l+1<=0);omega)
   |s l=>exact absurd hdy (by show ¬(DT.depths l+1<=0);omega)
   |k b=>exact leaves hx hy
 |succ d ih =>
  intro A x y u v hdx hdy hu hx hy;have items:∀{l m:List DT}{i j:Array Value},DT.depths l<=d->DT.depths m<=d->DAts s.heap l i.toList->DAts s.heap m j.toList->∀n (h1:n<i.size) (h2:n<j.size),aY A.in1 s i[n] j[n] (decide (l[n]?=m[n]?)):=by
   intro l m i j hl hm hi hj n h1 h2;obtain⟨x,ex,hx⟩:=hi.get (i:=n) (v:=i[n]) (by simp[h1]);obtain⟨y,ey,hy⟩:=hj.get (i:=n) (v:=j[n]) (by simp[h2]);rw[ex,ey];have hd:decide ((some x:Option DT)=some y)=decide (x=y):=by
    by_cases e:x=y
    ·subst e;simp
    ·rw[zzr0 e,zzr0 fun z=>e (ff z)]
   rw[hd];exact ih (DT.depths_get hl ex) (DT.depths_get hm ey) (by show A.units+1+d<cLine;omega) hx hy
  cases x with
  |k a =>
   cases y with
   |k b=>exact leaves hx hy
   |t l =>
    obtain⟨b,i,rfl,hi,_⟩:=hy;rw[zzr0 (by intro z;cases z)];exact(kt (by omega) hx hi).1
   |s l =>
    obtain⟨b,i,rfl,hi,_⟩:=hy;rw[zzr0 (by intro z;cases z)];exact(kl (by omega) hx hi).1
  |t l =>
   have hl:DT.depths l<=d:=by have:DT.depths l+1<=d+1:=hdx;omega
   have hx0:=hx;obtain⟨a,i,rfl,hi,hx⟩:=hx;cases y with
   |k b =>
    rw[zzr0 (by intro z;cases z)];exact(kt (by omega) hy hi).2
   |s m =>
    obtain⟨b,j,rfl,hj,_⟩:=hy;rw[zzr0 (by intro z;cases z)];exact aY.tuple_list hi hj (by omega)
   |t m =>
    have hm:DT.depths m<=d:=by have:DT.depths m+1<=d+1:=hdy;omega
    have hy0:=hy;obtain⟨b,j,rfl,hj,hy⟩:=hy;by_cases hab:a=b
    ·subst hab;have e:DT.t l=DT.t m:=sv.inj _ (ax _) hx0 hy0;rw[zzr1 e];exact aY.same _
    ·have r:=SeqAt.RcAt.tuples (A:=A) hi hj (by omega) (items hl hm hx hy);have li:=hx.length;have lj:=hy.length;simp only[mq]at li lj;have q:((nS (min i.size j.size)).all (fun n=>decide (l[n]?=m[n]?)) && i.size==j.size)=decide (DT.t l=DT.t m):=by
      by_cases e:l.length=m.length
      ·have e1:i.size=j.size:=by omega
       rw[<-e1,Nat.min_self,<-li,fV e];by_cases e2:l=m
       ·subst e2;simp
       ·have:¬(DT.t l=DT.t m):=fun z=>e2 (by injection z);rw[zzr0 this,zzr0 e2];rfl
      ·have e1:(i.size==j.size)=false:=by simp;omega
       have:¬(DT.t l=DT.t m):=fun z=>e (by injection z with z;rw[z]);rw[e1,zzr0 this,Bool.and_false]
     rw[q]at r;exact .of_refs hab r
  |s l =>
   have hl:DT.depths l<=d:=by have:DT.depths l+1<=d+1:=hdx;omega
   have hx0:=hx;obtain⟨a,i,rfl,hi,hx⟩:=hx;cases y with
   |k b =>
    rw[zzr0 (by intro z;cases z)];exact(kl (by omega) hy hi).2
   |t m =>
    obtain⟨b,j,rfl,hj,_⟩:=hy;rw[zzr0 (by intro z;cases z)];exact aY.list_tuple hi hj (by omega)
   |s m =>
    have hm:DT.depths m<=d:=by have:DT.depths m+1<=d+1:=hdy;omega
    have hy0:=hy;obtain⟨b,j,rfl,hj,hy⟩:=hy;by_cases hab:a=b
    ·subst hab;have e:DT.s l=DT.s m:=sv.inj _ (ax _) hx0 hy0;rw[zzr1 e];exact aY.same _
    ·have li:=hx.length;have lj:=hy.length;simp only[mq]at li lj;by_cases e:l.length=m.length
     ·have r:=SeqAt.RcAt.lists (A:=A) hi hj (by omega) (by omega) (items hl hm hx hy);rw[<-li,fV e]at r;have q:decide (l=m)=decide (DT.s l=DT.s m):=by
       by_cases e2:l=m
       ·subst e2;simp
       ·have:¬(DT.s l=DT.s m):=fun z=>e2 (by injection z);rw[zzr0 this,zzr0 e2]
      rw[q]at r;exact .of_refs hab r
     ·have:¬(DT.s l=DT.s m):=fun z=>e (by injection z with z;rw[z]);rw[zzr0 this];exact .of_refs hab (SeqAt.RcAt.lists_lengths hi hj (by simp;omega) (by omega))
end
theorem Cn(a b:fw):decide (DT.k a=DT.k b)=decide (a=b):=by
 by_cases e:a=b
 ·subst e;simp
 ·rw[zzr0 e,zzr0 fun z=>e (by injection z)]
theorem HX(l m:List DT):decide (DT.t l=DT.t m)=decide (l=m):=by
 by_cases e:l=m
 ·subst e;simp
 ·rw[zzr0 e,zzr0 fun z=>e (by injection z)]
theorem HY(l m:List DT):decide (DT.s l=DT.s m)=decide (l=m):=by
 by_cases e:l=m
 ·subst e;simp
 ·rw[zzr0 e,zzr0 fun z=>e (by injection z)]
theorem FN(x y:DT):decide ((some x:Option DT)=some y)=decide (x=y):=by
 by_cases e:x=y
 ·subst e;simp
 ·rw[zzr0 e,zzr0 fun z=>e (ff z)]
section
variable{A:Around}{s:Shared}
theorem o8{d:Nat}(hu:A.units+1+d<cLine){l m:List DT}{i j:Array Value}(hl:DT.depths l<=d)(hm:DT.depths m<=d)(hi:DAts s.heap l i.toList)(hj:DAts s.heap m j.toList):
  ∀n (h1:n<i.size) (h2:n<j.size),aY A.in1 s i[n] j[n] (decide (l[n]?=m[n]?)):=by
 intro n h1 h2;obtain⟨x,ex,hx⟩:=hi.get (i:=n) (v:=i[n]) (by simp[h1]);obtain⟨y,ey,hy⟩:=hj.get (i:=n) (v:=j[n]) (by simp[h2]);rw[ex,ey,FN];exact HW d (DT.depths_get hl ex) (DT.depths_get hm ey) hu hx hy
theorem BH{l m:List DT}{i j:Array Value}(hi:DAts s.heap l i.toList)(hj:DAts s.heap m j.toList):((nS (min i.size j.size)).all (fun n=>decide (l[n]?=m[n]?)) && i.size==j.size)=decide (l=m):=by
 have li:=hi.length;have lj:=hj.length;simp only[mq]at li lj;by_cases e:l.length=m.length
 ·have e1:i.size=j.size:=by omega
  rw[<-e1,Nat.min_self,<-li,fV e];simp
 ·have e1:(i.size==j.size)=false:=by simp;omega
  rw[e1,zzr0 fun z=>e (by rw[z]),Bool.and_false]
theorem HU{x y:DT}{u v:Value}(dx:x.depth<=14)(dy:y.depth<=14)(hu:A.units+16<cLine)(hx:sv s.heap x u)(hy:sv s.heap y v):SeqAt.RcAt A s u v (decide (x=y)):=by
 cases x with
 |k a =>
  rcases av (show c7 a u=true from hx)with⟨i,t,rfl,rfl⟩|⟨i,t,rfl,rfl⟩
  ·cases y with
   |k b =>
    rw[Cn];rcases av (show c7 b v=true from hy)with⟨j,t',rfl,rfl⟩|⟨j,t',rfl,rfl⟩
    ·rw[xM];exact SeqAt.RcAt.int_int i t j t'
    ·rw[xL];exact SeqAt.RcAt.int_str i t j t'
   |t m=>obtain⟨b,j,rfl,hj,_⟩:=hy;rw[zzr0 (by intro z;cases z)];exact SeqAt.RcAt.int_tuple i t hj (by omega)
   |s m=>obtain⟨b,j,rfl,hj,_⟩:=hy;rw[zzr0 (by intro z;cases z)];exact SeqAt.RcAt.int_list i t hj (by omega)
  ·cases y with
   |k b =>
    rw[Cn];rcases av (show c7 b v=true from hy)with⟨j,t',rfl,rfl⟩|⟨j,t',rfl,rfl⟩
    ·rw[xJ];exact SeqAt.RcAt.str_int i t j t'
    ·rw[xI];have:=SeqAt.RcAt.str_str (A:=A) (s:=s) i t j t';rwa[show(i==j)=decide (i=j)from by by_cases e:i=j<;>simp[e]]at this
   |t m=>obtain⟨b,j,rfl,hj,_⟩:=hy;rw[zzr0 (by intro z;cases z)];exact SeqAt.RcAt.str_tuple i t hj (by omega)
   |s m=>obtain⟨b,j,rfl,hj,_⟩:=hy;rw[zzr0 (by intro z;cases z)];exact SeqAt.RcAt.str_list i t hj (by omega)
 |t l =>
  obtain⟨a,i,rfl,hi,hx⟩:=hx;have dl:DT.depths l<=13:=by have:DT.depths l+1<=14:=dx;omega
  cases y with
  |k b =>
   rw[zzr0 (by intro z;cases z)];rcases av (show c7 b v=true from hy)with⟨j,t',rfl,rfl⟩|⟨j,t',rfl,rfl⟩
   ·exact SeqAt.RcAt.tuple_int j t' hi (by omega)
   ·exact SeqAt.RcAt.tuple_str j t' hi (by omega)
  |t m =>
   obtain⟨b,j,rfl,hj,hy⟩:=hy;have dm:DT.depths m<=13:=by have:DT.depths m+1<=14:=dy;omega
   have r:=SeqAt.RcAt.tuples (A:=A) hi hj (by omega) (o8 (by omega) dl dm hx hy);rw[BH hx hy]at r;rw[HX];exact r
  |s m=>obtain⟨b,j,rfl,hj,_⟩:=hy;rw[zzr0 (by intro z;cases z)];exact SeqAt.RcAt.tuple_list hi hj (by omega)
 |s l =>
  obtain⟨a,i,rfl,hi,hx⟩:=hx;have dl:DT.depths l<=13:=by have:DT.depths l+1<=14:=dx;omega
  cases y with
  |k b =>
   rw[zzr0 (by intro z;cases z)];rcases av (show c7 b v=true from hy)with⟨j,t',rfl,rfl⟩|⟨j,t',rfl,rfl⟩
   ·exact SeqAt.RcAt.list_int j t' hi (by omega)
   ·exact SeqAt.RcAt.list_str j t' hi (by omega)
  |t m=>obtain⟨b,j,rfl,hj,_⟩:=hy;rw[zzr0 (by intro z;cases z)];exact SeqAt.RcAt.list_tuple hi hj (by omega)
  |s m =>
   obtain⟨b,j,rfl,hj,hy⟩:=hy;have dm:DT.depths m<=13:=by have:DT.depths m+1<=14:=dy;omega
   have li:=hx.length;have lj:=hy.length;simp only[mq]at li lj;rw[HY];by_cases e:l.length=m.length
   ·have r:=SeqAt.RcAt.lists (A:=A) hi hj (by omega) (by omega) (o8 (by omega) dl dm hx hy);rw[<-li,fV e]at r;exact r
   ·rw[zzr0 fun z=>e (by rw[z])];exact SeqAt.RcAt.lists_lengths hi hj (by simp;omega) (by omega)
theorem HV{x y:DT}{u v:Value}(dx:x.depth<=14)(dy:y.depth<=14)(hu:A.units+16<cLine)(hx:sv s.heap x u)(hy:sv s.heap y v):SeqAt.RcNeAt A s u v (!decide (x=y)):=by
 cases x with
 |k a =>
  rcases av (show c7 a u=true from hx)with⟨i,t,rfl,rfl⟩|⟨i,t,rfl,rfl⟩
  ·cases y with
   |k b =>
    rw[Cn];rcases av (show c7 b v=true from hy)with⟨j,t',rfl,rfl⟩|⟨j,t',rfl,rfl⟩
    ·rw[xM];exact SeqAt.RcNeAt.int_int i t j t'
    ·rw[xL];exact SeqAt.RcNeAt.int_str i t j t'
   |t m=>obtain⟨b,j,rfl,hj,_⟩:=hy;rw[zzr0 (by intro z;cases z)];exact SeqAt.RcNeAt.int_tuple i t hj (by omega)
   |s m=>obtain⟨b,j,rfl,hj,_⟩:=hy;rw[zzr0 (by intro z;cases z)];exact SeqAt.RcNeAt.int_list i t hj (by omega)
  ·cases y with
   |k b =>
    rw[Cn];rcases av (show c7 b v=true from hy)with⟨j,t',rfl,rfl⟩|⟨j,t',rfl,rfl⟩
    ·rw[xJ];exact SeqAt.RcNeAt.str_int i t j t'
    ·rw[xI];have:=SeqAt.RcNeAt.str_str (A:=A) (s:=s) i t j t';rwa[show(i==j)=decide (i=j)from by by_cases e:i=j<;>simp[e]]at this
   |t m=>obtain⟨b,j,rfl,hj,_⟩:=hy;rw[zzr0 (by intro z;cases z)];exact SeqAt.RcNeAt.str_tuple i t hj (by omega)
   |s m=>obtain⟨b,j,rfl,hj,_⟩:=hy;rw[zzr0 (by intro z;cases z)];exact SeqAt.RcNeAt.str_list i t hj (by omega)
 |t l =>
  obtain⟨a,i,rfl,hi,hx⟩:=hx;have dl:DT.depths l<=13:=by have:DT.depths l+1<=14:=dx;omega
  cases y with
  |k b =>
   rw[zzr0 (by intro z;cases z)];rcases av (show c7 b v=true from hy)with⟨j,t',rfl,rfl⟩|⟨j,t',rfl,rfl⟩
   ·exact SeqAt.RcNeAt.tuple_int j t' hi (by omega)
   ·exact SeqAt.RcNeAt.tuple_str j t' hi (by omega)
  |t m =>
   obtain⟨b,j,rfl,hj,hy⟩:=hy;have dm:DT.depths m<=13:=by have:DT.depths m+1<=14:=dy;omega
   have r:=SeqAt.RcNeAt.tuples (A:=A) hi hj (by omega) (o8 (by omega) dl dm hx hy);rw[BH hx hy]at r;rw[HX];exact r
  |s m=>obtain⟨b,j,rfl,hj,_⟩:=hy;rw[zzr0 (by intro z;cases z)];exact SeqAt.RcNeAt.tuple_list hi hj (by omega)
 |s l =>
  obtain⟨a,i,rfl,hi,hx⟩:=hx;have dl:DT.depths l<=13:=by have:DT.depths l+1<=14:=dx;omega
  cases y with
  |k b =>
   rw[zzr0 (by intro z;cases z)];rcases av (show c7 b v=true from hy)with⟨j,t',rfl,rfl⟩|⟨j,t',rfl,rfl⟩
   ·exact SeqAt.RcNeAt.list_int j t' hi (by omega)
   ·exact SeqAt.RcNeAt.list_str j t' hi (by omega)
  |t m=>obtain⟨b,j,rfl,hj,_⟩:=hy;rw[zzr0 (by intro z;cases z)];exact SeqAt.RcNeAt.list_tuple hi hj (by omega)
  |s m =>
   obtain⟨b,j,rfl,hj,hy⟩:=hy;have dm:DT.depths m<=13:=by have:DT.depths m+1<=14:=dy;omega
   have li:=hx.length;have lj:=hy.length;simp only[mq]at li lj;rw[HY];by_cases e:l.length=m.length
   ·have r:=SeqAt.RcNeAt.lists (A:=A) hi hj (by omega) (by omega) (o8 (by omega) dl dm hx hy);rw[<-li,fV e]at r;exact r
   ·rw[zzr0 fun z=>e (by rw[z])];exact SeqAt.RcNeAt.lists_lengths hi hj (by simp;omega) (by omega)
end
mutual
def nI(K:Za)(H:Hp):DT->V->Prop
 |.k a,v=>v=kV a
 |.t l,v=>∃b xs,v=.ref b/\bE K H b xs/\DIns K H l xs
 |.s l,v=>∃b xs,v=.ref b/\az K H b xs/\DIns K H l xs
def DIns(K:Za)(H:Hp):List DT->List V->Prop
 |[],vs=>vs=[]
 |k::r,vs=>∃v us,vs=v::us/\nI K H k v/\DIns K H r us
end
section
variable{X:Cx}{J5:Zd}{σ:St}{H:Hp}{s:Shared}
theorem iR(I:Inv X J5 σ H s):∀(d:Nat) {k:DT}{v:V}{u:Value},k.depth<=d->nI X.K H k v->RelV v u->sv s.heap k u:=by
 have key:∀(d:Nat) (ih:∀{k:DT}{v:V}{u:Value},k.depth<=d->nI X.K H k v->RelV v u->sv s.heap k u) (ks:List DT) (vs:List V) (us:Zf),DT.depths ks<=d->DIns X.K H ks vs->aR vs us->DAts s.heap ks us:=by
  intro d ih ks
  induction ks with
  |nil =>
   intro vs us _ hx r;have e:vs=[]:=hx;subst e;cases r
   rfl
  |cons k ks ihl =>
   intro vs us hd hx r;obtain⟨v,vs',rfl,h1,h2⟩:=hx;cases r with
   |@cons _ u _ us' r1 r2 =>
    have hd':max k.depth (DT.depths ks)<=d:=hd;exact⟨u,us',rfl,ih (by omega) h1 r1,ihl vs' us' (by omega) h2 r2⟩
 intro d
 induction d with
 |zero =>
  intro k v u hd hx r;cases k with
  |t l=>exact absurd hd (by show ¬(DT.depths l+1<=0);omega)
  |s l=>exact absurd hd (by show ¬(DT.depths l+1<=0);omega)
  |k b =>
   have e:v=kV b:=hx;subst e;exact oZ (P:=X.prog) (w:=X.w) r
 |succ d ih =>
  intro k v u hd hx r;cases k with
  |k b =>
   have e:v=kV b:=hx;subst e;exact oZ (P:=X.prog) (w:=X.w) r
  |t l =>
   obtain⟨b,xs,rfl,hb,hi⟩:=hx;cases(show u=Value.ref b from r);obtain⟨its,rv,ht,_⟩:=I.tuple hb;exact⟨b,its.toArray,rfl,ht,by simpa using key d (fun h1=>ih h1) l xs its (by have:DT.depths l+1<=d+1:=hd;omega) hi rv⟩
  |s l =>
   obtain⟨b,xs,rfl,hb,hi⟩:=hx;cases(show u=Value.ref b from r);obtain⟨its,rv,ht,_⟩:=I.list hb;exact⟨b,its.toArray,rfl,ht.isList,by simpa using key d (fun h1=>ih h1) l xs its (by have:DT.depths l+1<=d+1:=hd;omega) hi rv⟩
theorem o_(I:Inv X J5 σ H s):∀{ks:List DT}{vs:List V}{us:Zf},DT.depths ks<=8->DIns X.K H ks vs->aR vs us->DAts s.heap ks us
 |[],vs,us,_,hx,r=>by
  have e:vs=[]:=hx;subst e;cases r
  rfl
 |k::ks,vs,us,hd,hx,r=>by
  obtain⟨v,vs',rfl,h1,h2⟩:=hx;cases r with
  |@cons _ u _ us' r1 r2 =>
   have hd':max k.depth (DT.depths ks)<=8:=hd;exact⟨u,us',rfl,iR I 8 (by omega) h1 r1,o_ I (by omega) h2 r2⟩
end
def u9(K:Za):R2:=fun x y H Q=>∃d e:DT,nI K H d x/\nI K H e y/\d.depth<=8/\e.depth<=8/\Q (.bl (decide (d=e))) H
def Ip(K:Za):R2:=fun x y H Q=>∃d e:DT,nI K H d x/\nI K H e y/\d.depth<=8/\e.depth<=8/\Q (.bl (!decide (d=e))) H
section
variable{X:Cx}
theorem jV(hu:X.A.units+16<cLine):lg X (ee .Eq) (u9 X.K):=by
 intro J5 s σ H x y v u Q I rx ry h;obtain⟨d,e,hx,hy,dx,dy,q⟩:=h;exact HU (aG dx (by decide)) (aG dy (by decide)) hu (iR I 8 dx hx rx) (iR I 8 dy hy ry) X.prog X.w X.xe _ ⟨.bl _,H,I,rfl,q⟩
theorem Fb(hu:X.A.units+16<cLine):lg X (ee .NotEq) (Ip X.K):=by
 intro J5 s σ H x y v u Q I rx ry h;obtain⟨d,e,hx,hy,dx,dy,q⟩:=h;exact HV (aG dx (by decide)) (aG dy (by decide)) hu (iR I 8 dx hx rx) (iR I 8 dy hy ry) X.prog X.w X.xe _ ⟨.bl _,H,I,rfl,q⟩
def GS(K:Za):R2:=fun x y H Q=>∃d e:DT,nI K H d x/\nI K H e y/\d.depth<=14/\e.depth<=14/\Q (.bl (decide (d=e))) H
def Jd(K:Za):R2:=fun x y H Q=>∃d e:DT,nI K H d x/\nI K H e y/\d.depth<=14/\e.depth<=14/\Q (.bl (!decide (d=e))) H
theorem AQ(hu:X.A.units+16<cLine):lg X (ee .Eq) (GS X.K):=by
 intro J5 s σ H x y v u Q I rx ry h;obtain⟨d,e,hx,hy,dx,dy,q⟩:=h;exact HU dx dy hu (iR I 14 dx hx rx) (iR I 14 dy hy ry) X.prog X.w X.xe _ ⟨.bl _,H,I,rfl,q⟩
theorem IA(hu:X.A.units+16<cLine):lg X (ee .NotEq) (Jd X.K):=by
 intro J5 s σ H x y v u Q I rx ry h;obtain⟨d,e,hx,hy,dx,dy,q⟩:=h;exact HV dx dy hu (iR I 14 dx hx rx) (iR I 14 dy hy ry) X.prog X.w X.xe _ ⟨.bl _,H,I,rfl,q⟩
def tN(K:Za)(neg:Bool):R2:=fun x y H Q=>∃(d:DT) (ds:List DT) (p:Addr) (xs:List V),nI K H d x/\y=.ref p/\(az K H p xs∨bE K H p xs)/\DIns K H ds xs/\d.depth<=8/\DT.depths ds<=8/\Q (.bl (if neg then !decide (d∈ds)else decide (d∈ds))) H
open Classical in
theorem pd{h:Heap}{d:DT}(d8:d.depth<=8):∀{ds:List DT}{us:Zf},DAts h ds us->DT.depths ds<=8->us.any (fun u=>@decide (sv h d u) (propDecidable _))=decide (d∈ds)
 |[],us,e,_=>by
  have e':us=[]:=e;subst e'
  rfl
 |x::ds,us,e,hd=>by
  obtain⟨u,us',rfl,h1,h2⟩:=e;have hd':max x.depth (DT.depths ds)<=8:=hd;rw[wM,pd d8 h2 (by omega)];by_cases q:d=x
  ·subst q;simp[h1]
  ·have n:¬sv h d u:=fun z=>q (sv.inj 8 d8 z h1);simp[n,q]
open Classical in
theorem t_{A:Around}{s:Shared}{d:DT}{v:Value}(d8:d.depth<=8)(hu:A.units+8<cLine)(hd:sv s.heap d v):∀{ds:List DT}{us:Zf},DAts s.heap ds us->DT.depths ds<=8->∀u∈us,aY A s u v (@decide (sv s.heap d u) (propDecidable _))
 |[],us,e,_,u,hm=>by
  have e':us=[]:=e;subst e';cases hm
 |x::ds,us,e,h8,u,hm=>by
  obtain⟨u',us',rfl,h1,h2⟩:=e;have h8':max x.depth (DT.depths ds)<=8:=h8;rcases cy.mp hm with rfl|hm
  ·have q:=HW 8 (A:=A) (by omega) d8 hu h1 hd;by_cases z:x=d
   ·subst z;rw[zzr1 h1];rwa[zzr1 rfl]at q
   ·have n:¬sv s.heap d u:=fun w=>z (sv.inj 8 d8 w h1).symm;rw[zzr0 n];rwa[zzr0 z]at q
  ·exact t_ d8 hu hd h2 (by omega) u hm
theorem xB(hu:X.A.units+16<cLine):lg X (ee .In) (tN X.K false):=by
 intro J5 s σ H x y v u Q I rx ry h;obtain⟨d,ds,p,xs,hx,rfl,hq,hds,d8,ds8,q⟩:=h;cases ry;have hd:=iR I 8 d8 hx rx;have hu':X.A.in1.units+8<cLine:=by show X.A.units+1+8<cLine;omega
 rcases hq with hq|hq
 ·obtain⟨its,r,pl,hz⟩:=I.list hq;have hi:=o_ I ds8 hds r;refine SeqAt.in_listAt _ pl.isList (fun w hw=>t_ d8 hu' hd hi ds8 w (by simpa using hw)) ⟨.bl _,H,I,rfl,?_⟩;rw[wz,pd d8 hi ds8];exact q
 ·obtain⟨its,r,pl,hz⟩:=I.tuple hq;have hi:=o_ I ds8 hds r;refine SeqAt.in_tupleAt _ pl (fun w hw=>t_ d8 hu' hd hi ds8 w (by simpa using hw)) ⟨.bl _,H,I,rfl,?_⟩;rw[wz,pd d8 hi ds8];exact q
theorem lL(hu:X.A.units+16<cLine):lg X (ee .NotIn) (tN X.K true):=by
 intro J5 s σ H x y v u Q I rx ry h;obtain⟨d,ds,p,xs,hx,rfl,hq,hds,d8,ds8,q⟩:=h;cases ry;have hd:=iR I 8 d8 hx rx;have hu':X.A.in1.units+8<cLine:=by show X.A.units+1+8<cLine;omega
 rcases hq with hq|hq
 ·obtain⟨its,r,pl,hz⟩:=I.list hq;have hi:=o_ I ds8 hds r;refine SeqAt.notIn_listAt _ pl.isList (fun w hw=>t_ d8 hu' hd hi ds8 w (by simpa using hw)) ⟨.bl _,H,I,rfl,?_⟩;rw[wz,pd d8 hi ds8];exact q
 ·obtain⟨its,r,pl,hz⟩:=I.tuple hq;have hi:=o_ I ds8 hds r;refine SeqAt.notIn_tupleAt _ pl (fun w hw=>t_ d8 hu' hd hi ds8 w (by simpa using hw)) ⟨.bl _,H,I,rfl,?_⟩;rw[wz,pd d8 hi ds8];exact q
end
def ur(z:Str)(lo hi:Option Int):Str:=⟨((z.cps.toList.drop (HT.sIx z.length 0 lo)).take (HT.sIx z.length z.length hi-HT.sIx z.length 0 lo)).toArray⟩
theorem sliceRange_one(a b:Nat):sliceRange (a:Int) (b:Int) 1=(nS (b-a)).map (fun k=>a+k):=by
 unfold sliceRange;simp only[show(1:Int) > 0 from by decide,if_true];by_cases h:(a:Int)<(b:Int)
 ·have e:(if(a:Int)<(b:Int)then((b:Int)-a+1-1) / 1 else 0).toNat=b-a:=by rw[if_pos h];omega
  rw[e];exact List.map_congr_left fun k _=>by omega
 ·have e:(if(a:Int)<(b:Int)then((b:Int)-a+1-1) / 1 else 0).toNat=b-a:=by rw[if_neg h];omega
  rw[e];exact List.map_congr_left fun k _=>by omega
theorem zU(v:Option Int)(n d:Nat):(match v with|none=>(d:Int)|some i=>max 0 (min (if i<0 then i+(n:Int)else i) (n:Int)))=((HT.sIx n d v:Nat):Int):=by
 cases v with
 |none=>rfl
 |some i =>
  rw[<-HT.clip_eq i n d];dsimp only;by_cases h:i<0
  ·rw[if_pos h,if_pos h];omega
  ·rw[if_neg h,if_neg h];omega
theorem oE(lo hi:Option Int)(n:Nat):sL lo hi 1 n=(nS (HT.sIx n n hi-HT.sIx n 0 lo)).map (fun k=>HT.sIx n 0 lo+k):=by
 have e1:=zU lo n 0;have e2:=zU hi n n;rw[<-sliceRange_one,<-e1,<-e2];unfold sL;simp only[show(1:Int) > 0 from by decide,if_true];cases lo<;>cases hi<;>rfl
theorem CY(z:Str)(lo hi:Option Int):Txt.slice z lo hi=ur z lo hi:=by
 have ha:HT.sIx z.length 0 lo<=z.length:=HT.sIx_le _ _ (cG _) _;have hb:HT.sIx z.length z.length hi<=z.length:=HT.sIx_le _ _ (ax _) _;have hlen:z.cps.toList.length=z.length:=by simp[Str.length]
 have pick:(sL lo hi 1 z.length).filterMap (z.cps[·]?)=(z.cps.toList.drop (HT.sIx z.length 0 lo)).take (HT.sIx z.length z.length hi-HT.sIx z.length 0 lo):=by
  rw[oE];generalize HT.sIx z.length 0 lo=a at *;generalize HT.sIx z.length z.length hi=b at *;have h:=StrLaws.picks z.cps.toList (b-a) a (by omega);simpa using h
 unfold Txt.slice;by_cases h:((1:Int)==1 && (sL lo hi 1 z.length).length==z.length)=true
 ·rw[if_pos h];have hl:(sL lo hi 1 z.length).length=z.length:=by simpa using h
  rw[oE,ai,List.length_range]at hl;unfold ur;have a0:HT.sIx z.length 0 lo=0:=by omega
  have bn:HT.sIx z.length z.length hi-HT.sIx z.length 0 lo=z.cps.toList.length:=by omega
  rw[bn,a0,sK,aS]
 ·rw[if_neg h];unfold ur;rw[pick]
section
variable{X:Cx}
def GR:V->Option Int->Option Int->Hp->VK->Prop:=fun x lo hi H Q=>∃z,x=.str z/\z.length<=aj/\Q (.str (ur z lo hi)) H
theorem AA:SlR X GR:=by
 intro J5 s σ H x v vl vu lo hi sl Q I rx hs pl pu h;obtain⟨z,rfl,hz,q⟩:=h;obtain⟨t,rfl⟩:=rx;rw[<-CY]at q;refine⟨"str",_,F.slot_str_getitem.lookup,typeIs_str _ _ _,?_⟩;obtain⟨o,ho,hc,hd⟩:=hs;have fin:∀(l u:Option (Int×Tok)),vl=partValue l->vu=partValue u->lo=l.map (·.1)->hi=u.map (·.1)->wpAny (model X.prog X.w) X.A (mN (.str z t) (.ref sl)) (EP X J5 σ Q) X.xe s:=by
  rintro l u rfl rfl rfl rfl;refine wpAny_getItem_str_slice (l:=l) (u:=u) (st:=none) ⟨o,ho,hc,hd⟩ rfl (post_val_or_str ⟨aG (Txt.slice_le z _ _) hz,fun t' k=>⟨.str _,H,I.tok _,⟨_,rfl⟩,q⟩⟩)
 cases pl with
 |none =>
  cases pu with
  |none=>exact fin none none rfl rfl rfl rfl
  |int j u=>exact fin none (some (j,u)) rfl rfl rfl rfl
 |int i t' =>
  cases pu with
  |none=>exact fin (some (i,t')) none rfl rfl rfl rfl
  |int j u=>exact fin (some (i,t')) (some (j,u)) rfl rfl rfl rfl
def HN(K:Za):V->List V->Hp->VK->Prop:=fun x vs H Q=>∃z p ys,x=.str z/\vs=[.ref p]/\az K H p (ys.map V.str)/\(ys.map (·.length)).sum+ys.length * z.length<=16777216/\Q (.str (wx z ys)) H
theorem Gv{ys:Zb}:∀{us:Zf},aR (ys.map V.str) us->StrsAre us ys:=by
 induction ys with
 |nil=>intro us r;cases r;exact .nil
 |cons y ys ih =>
  intro us r;cases r with
  |cons r1 r2 =>
   obtain⟨t,rfl⟩:=r1;exact .cons _ _ (ih r2)
theorem Hf:IW X "str.join" (HN X.K):=by
 intro J5 s σ H x vs v us Q I rx rv h;obtain⟨z,p,ys,rfl,rfl,hq,hz,q⟩:=h;obtain⟨t,rfl⟩:=rx;obtain⟨u,rfl,ru⟩:=rv.one;cases ru;obtain⟨its,r,pl,_⟩:=I.list hq;exact join_list pl.isList (by simpa using Gv r) hz fun t' k=>⟨.str _,H,I.tok _,⟨_,rfl⟩,q⟩
end
section
variable{X:Cx}
theorem IJ{bs:List Bool}{us:Zf}(r:aR (bs.map V.bl) us){i:Nat}{v:Value}(h:us[i]?=some v):v=.bool ((bs[i]?).getD false)/\i<bs.length:=by
 have hi:i<us.length:=(bY.mp h).1;have hl:=r.length;rw[ai]at hl;have hb:i<bs.length:=by omega
 obtain⟨u,hu,ru⟩:=r.get (i:=i) (x:=V.bl bs[i]) (by simp[hb]);rw[h]at hu;cases hu;refine⟨?_,hb⟩;rw[cN hb];exact ru
theorem ye(bs:List Bool):((nS bs.length).all fun i=>(bs[i]?).getD false)=bs.all id:=by
 induction bs with
 |nil=>rfl
 |cons b bs ih =>
  rw[fG,List.range_succ_eq_map,List.all_cons,List.all_map,List.all_cons,<-ih]
  rfl
theorem qY(hc:X.calm=true):fW X (.builtin "all") (fun xs H Q=>∃(p:Addr) (bs:List Bool),xs=[.ref p]/\az X.K H p (bs.map V.bl)/\Q (.bl (bs.all id)) H):=by
 intro J5 s σ H xs us Q I r h;obtain⟨p,bs,rfl,hq,q⟩:=h;obtain⟨u,rfl,ru⟩:=vals1 r;cases ru;obtain⟨its,rv,pl,hz⟩:=I.list hq;obtain⟨o,n,ho,_⟩:=id pl;have hl:=rv.length;rw[ai]at hl;refine call_all_walk (BA pl.isList ?_);refine⟨s.heap.objs.size,_,_,_,_,_,fun i=>(bs[i]?).getD false,rfl,Walks.list (prog:=X.prog) (w:=X.w) (A:=X.A.in1) (I.ok.hd hc) s.heap.objs.size p (db (aU ho)) its.toArray,⟨⟨_,da _ rfl,rfl,rfl⟩,pl.isList.push _⟩,?_,?_⟩
 ·intro i v s' Q' E' hv hq';obtain⟨e,_⟩:=IJ rv (i:=i) (v:=v) (by simpa using hv);rw[e];exact sH hq'
 ·intro h' tk hk;have I':Inv X J5 σ H { s with heap:=h',toks:=tk }:=I.kept fun b o e=>hk b o (by simp;exact db (aU e)) (bq _ e);rw[bN,<-hl,ye];exact⟨.bl _,H,I',rfl,q⟩
theorem AO:lg X (ee .In) (fun x y H Q=>∃c j,x=.str ⟨#[c]⟩/\y=.str j/\Q (.bl (decide (c∈j.cps.toList))) H):=by
 intro J5 s σ H x y v u Q I rx ry h;obtain⟨c,j,rfl,rfl,q⟩:=h;rw[<-StrLaws.found_one]at q;exact Dk J5 s σ H _ _ v u Q I rx ry ⟨_,_,rfl,rfl,q⟩
theorem uz(hc:X.calm=true):fW X (.type "list") (fun xs H Q=>∃(d:Addr) (kvs:List (fw×V)),xs=[.ref d]/\Rd H d (.dK kvs)/\∀l,H l=none->Q (.ref l) (upd H l (.lst (kvs.map fun kv=>kV kv.1)))):=by
 intro J5 s σ H xs us Q I r h;obtain⟨d,kvs,rfl,hd,q⟩:=h;obtain⟨u,rfl,ru⟩:=vals1 r;cases ru;obtain⟨z,hsys,vs,rel,dd⟩:=o9 I.hok hd;obtain⟨ep,hat⟩:=dd.dictAt;have hl:=rel.length;refine PySem.W.kdl_call (PySem.W.kdl_dict (knd:=cn X.prog X.w) (kvs:=vs) (ep:=ep) hsys) (I.ok.hd hc) hat (by rw[<-hl];exact z) fun h' tk acc c hk hD hacc=>?_;have hv:aR (kvs.map fun kv=>kV kv.1) acc.toList:=by
  obtain⟨hn,hP⟩:=hacc;have key:∀(a:Zf) (ks:List (fw×V)) (ws:List (fw×Value)),KV ks ws->a.length=ws.length->(∀(j:Nat) (v:Value),a[j]?=some v->∃k x,ws[j]?=some (k,x)/\(cn X.prog X.w).is k v=true)->aR (ks.map fun kv=>kV kv.1) a:=by
   intro a ks ws rl
   induction rl generalizing a with
   |nil=>intro ha _;cases a with
    |nil=>exact .nil
    |cons _ _=>cases ha
   |@cons p w' ps ws' hp _ ih =>
    intro ha hj;cases a with
    |nil=>cases ha
    |cons v a =>
     obtain⟨k,x,e,hk⟩:=hj 0 v rfl;have e':w'=(k,x):=by simpa using e
     refine .cons ?_ (ih a (by simpa using ha) fun j v hv=>by simpa using hj (j+1) v (by simpa using hv));have ek:p.1=k:=by rw[hp.1,e']
     show RelV (kV p.1) v;rw[ek];rcases av (show c7 k v=true from hk)with⟨i,t,rfl,rfl⟩|⟨i,t,rfl,rfl⟩
     ·exact⟨t,rfl⟩
     ·exact⟨t,rfl⟩
  exact key acc.toList kvs vs rel (by rw[mq];exact hn) fun j v hv=>hP j v (by rw[<-Array.getElem?_toList];exact hv)
 refine⟨.ref s.heap.objs.size,_,I.laid (o:=.lst (kvs.map fun kv=>kV kv.1)) hk (ax _) ⟨by rw[ai];exact z,acc.toList,c,hv,by rw[Array.toArray_toList];exact hD⟩,rfl,q _ I.fresh⟩
end
section
variable{prog:bO}{w:World}{K:Type}[DecidableEq K]{knd:HeapKind prog w K}{A:Around}{E:Zc}{s:Shared}
theorem sZ{d a:Addr}{xs:List (K×Addr×Value)}{k:K}{v:Value}{Q:Zc}(hu:knd.room A)(hkey:knd.is s.heap k a)(hm:s.heap.DictOfH knd d xs)
  (there:∀p,atKey xs k=some p->Q p.2 { s with toks:=s.toks+knd.draws k })
  (new:atKey xs k=none->∀h',h'.DictOfH knd d (xs++[(k,a,v)])->i3 d s.heap h'->Q v { s with heap:=h',toks:=s.toks+knd.draws k })
  (hsz:xs.length<=aj):wpAny (model prog w) A (dictSetDefault d (.ref a) v) Q E s:=by
 obtain⟨o,es,ep,ho,hc,hd,he,his,hn⟩:=hm;unfold dictSetDefault
 try with_reducible refine qN ?_
 refine ao (knd.pyHash hu hkey ?_);refine ao (wpAny_dictFind_heap (s:={ s with toks:=s.toks+knd.draws k }) hu hkey ho hd he his hn ?_ ?_)
 ·intro hno;have hnot:k∉xs.map (·.1):=not_mem_keys_of_get hno;refine ao (qO (ao (wpAny_updateDictKeys (hz:=by have e:=size_of_entries he;omega) (s:={ s with toks:=s.toks+knd.draws k }) ho hd (aT (new (atKey_none_of_get hno) _ ⟨_,_,ep+1,wO _ ho (Obj.isFreed_of_dict (Obj.data_mapDictKeys hd _)),
   hc.mapDictKeys _,Obj.data_mapDictKeys hd _,?_,?_,?_⟩ (mJ ..))))))
  ·simp[he,entryOfKey]
  ·intro x hx;rcases br.mp hx with hx|hx
   ·exact knd.keeps (his x hx) ho hd (mJ ..)
   ·simp only[cC]at hx;subst hx;exact knd.keeps hkey ho hd (mJ ..)
  ·rw[ar,dw];refine⟨hn,by simp,?_⟩;intro x hx y hy;simp only[bg,wK,cC]at hy;subst hy;exact fun e=>hnot (e▸hx)
 ·intro j p hj;refine ao (ww (s:={ s with toks:=s.toks+knd.draws k }) ho hd ?_);rw[entry_at he j,hj];exact ao (qO (aT (there p (atKey_of_get hn hj))))
theorem oX(knd:HeapKind prog w K)(d a:Addr)(hd:(d==ia)=false)(dflt:Value):
  MeetsIn prog w (cE.«dict.setdefault» ⟨[.ref d,.ref a,dflt],[]⟩) (fun A R s=>knd.room A.in1/\∃k xs,knd.is s.heap k a/\s.heap.DictOfH knd d xs/\xs.length<=aj /\
   (∀p,atKey xs k=some p->R (.ok (.ret p.2)) { s with toks:=s.toks+knd.draws k }) /\
   (atKey xs k=none->∀h',h'.DictOfH knd d (xs++[(k,a,dflt)])->i3 d s.heap h'->R (.ok (.ret dflt)) { s with heap:=h',toks:=s.toks+knd.draws k })) :=
 .of_wp fun A R s ⟨hu,k,xs,hkey,hm,hz,h1,h2⟩=>by
  unfold cE.«dict.setdefault»;refine ao ?_;unfold cE.Dict.keyAndDefault;refine ao (wpAny_notOrdered_dict hm.typeIs ?_);show wpAny _ _ (pure (d,Value.ref a,some dflt)) _ _ s;refine aT ?_;show wpAny _ _ (if(d==ia)=true then _ else(dictSetDefault d (.ref a) dflt >>= _)) _ _ s
  rw[if_neg (by rw[hd];exact gX)];exact ao (sZ hu hkey hm (fun p hp=>aT ⟨p.2,rfl,h1 p hp⟩) (fun hn h' hm' hs'=>aT ⟨dflt,rfl,h2 hn h' hm' hs'⟩) hz)
end
section
variable{X:Cx}
def BM:V->List V->Hp->VK->Prop:=fun x vs H Q=>∃(d b:Addr) (kvs:List (TK×V)) (k:TK) (z:V),x=.ref d/\vs=[.ref b,z]/\H d=some (.dT kvs)/\dL H k (.ref b)/\k.depth<=8/\kvs.length<aj /\
 (∀v,a_ kvs k=some v->Q v H)/\(a_ kvs k=none->Q z (upd H d (.dT (kvs++[(k,z)]))))
theorem Dn(hu:X.A.units+16<cLine):IW X "dict.setdefault" BM:=by
 intro J5 s σ H x vs v us Q I rx rv h;obtain⟨d,b,kvs,k,z,rfl,rfl,hd,hb,h8,hz,q1,q2⟩:=h;cases rx;obtain⟨u,v,rfl,ru,rz⟩:=rv.two;cases ru;obtain⟨_,hsys,xs,rel,dd⟩:=FH I.hok I.kIn hd;have hl:kvs.length=xs.length:=Paired.length rel;refine sQ PySem.F.slot_dict_setdefault dd.typeIs PySem.F.entry_dict_setdefault (PySem.F.args_dict_setdefault_3 _ _ _) (oX (ei X.prog X.w) d b hsys v)
  ⟨fH hu,k,xs,xK I.hok I.kIn (dL.c 8 h8 hb) h8,dd,by omega,fun p hp=>?_,fun hn h' dd' hs=>?_⟩
 ·have e:=rel.val k;rw[hp]at e;cases e2:a_ kvs k with
  |none=>rw[e2]at e;exact e.elim
  |some y =>
   rw[e2]at e;exact⟨y,H,I.tok _,e,q1 y e2⟩
 ·have e:=rel.val k;rw[hn]at e;have e2:a_ kvs k=none:=by
   cases e2:a_ kvs k with
   |none=>rfl
   |some y=>rw[e2]at e;exact e.elim
  obtain⟨o,es,ep,hq,h2,h3,h4,_,h5⟩:=dd';refine⟨z,_,sr (ob:=.dT (kvs++[(k,z)])) I (by rw[hd];exact qH) hs ⟨o,hq⟩ ⟨by rw[aE,List.length_singleton];omega,hsys,_,KT.keeps (kvs:=kvs++[(k,z)]) (xs:=xs++[(k,b,v)]) (ef rel ⟨rfl,dL.c 8 h8 hb,h8,rz⟩) fun c ys ec=>?_,o,es,ep,hq,h2,h3,h4,h5⟩,rz,q2 e2⟩;rw[ah (Fk ec hd (fun z=>nomatch z))];exact ec
end
theorem k6:entryFor table "dict.update.loop"=some cE.«dict.update.loop»:=entryFor_of_fast (by kernel_rfl)
theorem fQ:plainId "dict.update.loop"=true:=by decide +kernel
theorem xD:typeLookup (.type "list") "keys"=pure none:=am_miss_of_fast (by decide +kernel)
section
variable{prog:bO}{w:World}{A:Around}{E:Zc}{s:Shared}
theorem Dp{a:Addr}{o:Obj}{xs:Array Value}{k:Nat}{Q:Option Value->Shared->Prop}(hx:s.heap.get? a=some o)(hc:o.cls=.type "list")(hdat:o.data=.seq xs k)(hd:o.dict=none)(hA:A.handled=none)
  (h:∀h' tk,(∀b ob,s.heap.get? b=some ob->h'.get? b=some ob)->Q none { s with heap:=h',toks:=tk }):wpAny (model prog w) A (getAttr? (.ref a) "keys") Q E s:=by
 obtain⟨c,dct,dat,sl⟩:=o;simp only at hc hdat hd;subst hc hdat hd;obtain⟨hp,g,d,tk,os⟩:=s;have hT:∀tk',(⟨hp,g,d,tk',os⟩:Shared).TypeIs (.ref a) "list":=fun _=>⟨_,hx,rfl⟩;have f1:=sub_AttributeError;have f3:=F.slot_list_getattribute.lookup;have f4:=F.slot_list_getattribute.bind (.ref a);have f5:=am_list_getattr_none;unfold getAttr? getAttrBy? getAttrBy
 repeat (any_goals (first|assumption|exact hT _|((with_reducible show wpAny _ _ (call (Value.builtin "list.__getattribute__") _ _) _ _ _);refine sT F.slot_list_getattribute (hT _) am_entry_list_getattribute (F.args_list_getattribute_2 _ _) (meets_getattribute_miss_list a xs k sl "keys" _ xD (by decide +kernel) (by decide +kernel)) ⟨hx,hA,fun h' tk' e hx'=>?_⟩)|wp_step))
 obtain⟨t',u',he⟩:=hx'.there;show wpAny _ _ (getattributeRaised _ _ _ _ _ _ _) _ _ _;unfold getattributeRaised hookOrError attributeErrorLeaves
 repeat (any_goals (first|assumption|wp_step))
 all_goals first|exact h _ _ hx'.keeps|trace_state
def Bj(h:Heap)(u:Value)(kv:fw×Value):Prop:=∃t ku,u=.ref t/\h.IsTuple t #[ku,kv.2]/\c7 kv.1 ku=true
theorem Az{κ:Type}[DecidableEq κ](kvs:List (κ×Value))(k:κ)(v:Value):(stored kvs k v).length<=kvs.length+1:=by
 unfold stored;split
 ·rw[ai];omega
 ·rw[aE,List.length_singleton];exact ax _
theorem Ei{R:Result->Shared->Prop}(hh:A.handled=none){D it l:Addr}{items:Array Value}{ps:List (fw×Value)}(hDi:D≠it)(hli:l≠it)(hlD:l≠D)(hps:ps.length=items.size):
  ∀(n i:Nat) (s:Shared) (acc:List (fw×Value)),items.size-i=n->i<=items.size->acc.length+(items.size-i)<=aj->s.heap.IsListIter it l i->s.heap.IsList l items->s.heap.DictOf (cn prog w) D acc ->
   (∀(j:Nat) (u:Value) (kv:fw×Value),items[j]?=some u->ps[j]?=some kv->Bj s.heap u kv) ->
   (∀h' tk,h'.DictOf (cn prog w) D (merged acc (ps.drop i))->(∀b o,b≠D->b≠it->s.heap.get? b=some o->h'.get? b=some o)->R (.ok (.ret .none)) { s with heap:=h',toks:=tk }) ->
   zzl76 (model prog w) A (.builtin "dict.update.loop" ⟨[.ref D,.ref it,rawInt i,.none],[]⟩) R s:=by
 intro n
 induction n with
 |zero =>
  intro i s acc hn hi hz hit hl hD hp hR;have e:i=items.size:=by omega
  subst e;refine codeAny_builtin k6 ?_;rw[Around.under_plainId fQ _];show wpAny _ A.in1 (pyNext (.ref it) >>= _) _ _ s;refine ao (wpAny_pyNext_list_end hh hit hl (by simp) fun h' eb=>?_);show wpAny _ _ (cE.Dict.addKeywords D [] >>= _) _ _ _;refine ao (aT (aT ?_));have hD':h'.DictOf (cn prog w) D acc:=hD.extBut eb hDi;have q:=hR h' s.toks (by rw[pj (by omega)];exact hD') fun b o _ hb e=>eb b o hb e;exact q
 |succ n ih =>
  intro i s acc hn hi hz hit hl hD hp hR;have hlt:i<items.size:=by omega
  refine codeAny_builtin k6 ?_;rw[Around.under_plainId fQ _];show wpAny _ A.in1 (pyNext (.ref it) >>= _) _ _ s;have hu:items[i]?=some items[i]:=by simp[hlt]
  have hk:ps[i]?=some ps[i]:=cN (by omega);obtain⟨t,ku,eu,ht,hku⟩:=hp i _ _ hu hk;refine ao (wpAny_pyNext_list_item hit hl (x:=items[i]) hu fun h1 hit1 hs1=>?_);rw[eu];have hs1':i3 it s.heap h1:=hs1;have nt:t≠it:=by
   rintro rfl;obtain⟨o,ho,hc,_⟩:=ht;obtain⟨o',ho',hc',_⟩:=hit;rw[ho]at ho';cases ho';rw[hc]at hc';simp at hc'
  have ht1:h1.IsTuple t #[ku,ps[i].2]:=ht.extBut hs1'.extBut nt;have hT1:Shared.TypeIs { s with heap:=h1 } (.ref t) "tuple":=ht1.typeIs (s:={ s with heap:=h1 });obtain⟨ot,got,hct,nt',hdt⟩:=id ht1;refine ao (qN ?_);refine ao (wpAny_tryCatch ?_);unfold cE.Dict.pairItems;refine ao (wpAny_typeOf hT1 ?_);rw[if_pos (by decide)];refine ao (mw got hdt (aT ?_));show wpAny _ _ (kz [ku,ps[i].2] (dictSet D ku ps[i].2)) _ _ _;have hD1:h1.DictOf (cn prog w) D acc:=hD.extBut hs1'.extBut hDi;refine qN (wpAny_dictSet_pairs (knd:=cn prog w) (k:=ps[i].1) hku hD1 (fun h2 hD2 hs2=>?_) (by omega));have hs2':i3 D h1 h2:=hs2;show wpAny _ _ (again _) _ _ _;refine aT ⟨plainId_quiet fQ _,?_⟩;have hl1:h1.IsList l items:=hl.extBut hs1'.extBut hli;have kp:∀b o,b≠D->b≠it->s.heap.get? b=some o->h2.get? b=some o:=fun b o h1 h2 e=>hs2'.extBut b o h1 (hs1'.extBut b o h2 e);refine ih (i+1) _ (stored acc ps[i].1 ps[i].2) (by omega) hlt (by have:=Az acc ps[i].1 ps[i].2;omega) (hit1.extBut hs2'.extBut (ix hDi)) (hl1.extBut hs2'.extBut hlD) hD2 (fun j u kv h1 h2=>?_) fun h' tk hD' kp'=>?_
  ·obtain⟨t2,ku2,e2,ht2,hk2⟩:=hp j u kv h1 h2;have n1:t2≠it:=by
    rintro rfl;obtain⟨o,ho,hc,_⟩:=ht2;obtain⟨o',ho',hc',_⟩:=hit;rw[ho]at ho';cases ho';rw[hc]at hc';simp at hc'
   have n2:t2≠D:=by
    rintro rfl;obtain⟨o,ho,hc,_⟩:=ht2;obtain⟨o',_,_,ho',hc',_⟩:=hD;rw[ho]at ho';cases ho';have:=hc'.1;rw[hc]at this;simp at this
   obtain⟨o,ho,r⟩:=ht2;exact⟨t2,ku2,e2,⟨o,kp _ o n2 n1 ho,r⟩,hk2⟩
  ·refine hR h' tk ?_ fun b o h1 h2 e=>kp' b o h1 h2 (kp b o h1 h2 e);have ed:ps.drop i=ps[i]::ps.drop (i+1):=pi (by omega);rw[ed];exact hD'
theorem rM{l:Addr}{o:Obj}{items:Array Value}{n:Nat}{ps:List (fw×Value)}{Q:Zc}(hh:A.handled=none)(ho:s.heap.get? l=some o)(hc:o.cls=.type "list")(hdt:o.data=.seq items n)(hod:o.dict=none)
  (hps:ps.length=items.size) (hp:∀(j:Nat) (u:Value) (kv:fw×Value),items[j]?=some u->ps[j]?=some kv->Bj s.heap u kv) (hz:items.size<=aj)
  (h:∀h' tk,h'.DictOf (cn prog w) s.heap.objs.size (merged [] ps)->(∀b o,s.heap.get? b=some o->h'.get? b=some o)->Q (.ref s.heap.objs.size) { s with heap:=h',toks:=tk }) :
  wpAny (model prog w) A (call (.type "dict") [.ref l]) Q E s:=by
 refine callType_codes (Q₁:=fun obj s₁=>obj=.ref s.heap.objs.size/\s₁={ s with heap:=s.heap.push { cls:=.type "dict",data:=.dict #[] } }) F.kt_called_dict (F.kt_typeCall_dict_1 _) F.entry_dict_init (kt_code_dict_new _ ⟨rfl,rfl⟩) ?_;rintro obj s₁ ⟨rfl,rfl⟩;have hnew:(s.heap.push { cls:=.type "dict",data:=.dict #[] }).DictOf (cn prog w) s.heap.objs.size []:=Heap.DictOf.new s.heap;have ho1:(s.heap.push { cls:=.type "dict",data:=.dict #[] }).get? l=some o:=bq _ ho;have hlt:l<s.heap.objs.size:=aU ho;refine⟨hnew.typeIs,F.args_dict_init_2 _ _,?_⟩;unfold cE.«dict.__init__»;refine ao ?_;unfold cE.Dict.selfAndRest;refine ao (wpAny_notOrdered_dict hnew.typeIs ?_);show wpAny _ _ (pure (s.heap.objs.size,[Value.ref l])) _ _ _;refine aT ?_;show wpAny _ _ (cE.Dict.updateFrom "dict.__init__" s.heap.objs.size (.ref l) [] .none) _ _ _;unfold cE.Dict.updateFrom;have hTl:Shared.TypeIs { s with heap:=s.heap.push { cls:=.type "dict",data:=.dict #[] } } (.ref l) "list":=⟨o,ho1,hc⟩;refine ao (wpAny_typeOf hTl ?_);rw[if_pos (by decide)];refine ao (Dp ho1 hc hdt hod hh fun h1 tk1 k1=>?_);have k1':∀b ob,(s.heap.push { cls:=.type "dict",data:=.dict #[] }).get? b=some ob->h1.get? b=some ob:=k1;rw[if_pos (by rfl:(none:Option Value).isNone=true)];refine ao (qO ?_);have hl1:h1.IsList l items:=⟨o,k1' _ _ ho1,hc,n,hdt⟩;refine ao (BA (s:={ s with heap:=h1,toks:=tk1 }) hl1 ?_);have hD1:h1.DictOf (cn prog w) s.heap.objs.size []:=by
  obtain⟨od,es,ep,g,r⟩:=hnew;exact⟨od,es,ep,k1' _ _ g,r⟩
 have hDlt:s.heap.objs.size<h1.objs.size:=by
  obtain⟨od,es,ep,g,r⟩:=hD1;exact aU g
 refine aT ⟨plainId_quiet fQ _,?_⟩;refine Ei (A:=A.in1) (prog:=prog) (w:=w) hh (D:=s.heap.objs.size) (it:=h1.objs.size) (l:=l) (items:=items) (ps:=ps) (db hDlt) (db (Nat.lt_trans hlt hDlt)) (db hlt) hps items.size 0 _ [] (Nat.sub_zero _) (cG _) (by rw[List.length_nil];omega)
  ⟨_,da _ rfl,rfl,rfl⟩ (hl1.push _) (hD1.push _) (fun j u kv a b=>?_) fun h' tk hD' kp=>?_
 ·obtain⟨t,ku,e,ht,hk⟩:=hp j u kv a b;obtain⟨ot,g,r⟩:=ht;exact⟨t,ku,e,⟨ot,bq _ (k1' _ _ (bq _ g)),r⟩,hk⟩
 ·rw[sK]at hD';refine⟨rfl,h h' tk hD' fun b ob e=>kp b ob (db (aU e)) (db (Nat.lt_trans (aU e) hDlt)) (bq _ (k1' _ _ (bq _ e)))⟩
end
section
variable{X:Cx}
theorem x_(hc:X.calm=true):fW X (.type "dict") (fun xs H Q=>∃(l:Addr) (ts:Ze) (kvs:List (fw×V)),xs=[.ref l]/\az X.K H l (ts.map V.ref)/\ts.length=kvs.length /\
  (∀(j:Nat) (t:Addr) (kv:fw×V),ts[j]?=some t->kvs[j]?=some kv->H t=some (.tup [kV kv.1,kv.2]))/\∀p,H p=none->Q (.ref p) (upd H p (.dK (jg [] kvs)))):=by
 intro J5 s σ H xs us Q I r h;obtain⟨l,ts,kvs,rfl,hl,hlen,ht,q⟩:=h;obtain⟨u,rfl,ru⟩:=vals1 r;cases ru;obtain⟨its,rv,⟨o,n,ho,hcl,hod,hdt⟩,hz⟩:=I.list hl;have key:∀(ts:Ze) (kvs:List (fw×V)),ts.length=kvs.length->(∀(j:Nat) (t:Addr) (kv:fw×V),ts[j]?=some t->kvs[j]?=some kv->H t=some (.tup [kV kv.1,kv.2]))->∃ps:List (fw×Value),KV kvs ps/\∀(j:Nat) (t:Addr) (kv:fw×Value),ts[j]?=some t->ps[j]?=some kv->Bj s.heap (.ref t) kv:=by
  intro ts
  induction ts with
  |nil =>
   intro kvs hl _;cases kvs with
   |nil=>exact⟨[],.nil,fun j t kv e=>by simp at e⟩
   |cons _ _=>cases hl
  |cons t ts ih =>
   intro kvs hl ht;cases kvs with
   |nil=>cases hl
   |cons kv kvs =>
    obtain⟨ps,r1,r2⟩:=ih kvs (by simpa using hl) fun j t' kv' a b=>ht (j+1) t' kv' (by simpa using a) (by simpa using b);obtain⟨_,itt,rt,p⟩:=(show cB X.prog X.w X.K H s.heap t (.tup [kV kv.1,kv.2])from I.hok t _ (ht 0 t kv rfl rfl));obtain⟨a,b,e,ra,rb⟩:=rt.two;subst e;refine⟨(kv.1,b)::ps,.cons ⟨rfl,rb⟩ r1,fun j t' kv' h1 h2=>?_⟩;cases j with
    |zero =>
     simp at h1 h2;subst h1 h2;exact⟨t,a,rfl,p,oZ (P:=X.prog) (w:=X.w) ra⟩
    |succ j=>exact r2 j t' kv' (by simpa using h1) (by simpa using h2)
 obtain⟨ps,rel,pa⟩:=key ts kvs hlen ht;have hl1:=rv.length;rw[ai]at hl1;have hl2:=rel.length;refine rM (prog:=X.prog) (w:=X.w) (ps:=ps) (I.ok.hd hc) ho hcl hdt hod (by rw[bN];omega) (fun j u kv a b=>?_) (by rw[bN,<-hl1];rw[ai]at hz;exact hz) fun h' tk hD kp=>?_
 ·have a':its[j]?=some u:=by simpa using a
  have hj:j<ts.length:=by
   have:=(bY.mp a').1;omega
  obtain⟨u',e1,r1⟩:=rv.get (i:=j) (x:=V.ref ts[j]) (by simp[hj]);rw[a']at e1;cases e1;cases(show u=Value.ref ts[j]from r1);exact pa j ts[j] kv (by simp[hj]) b
 ·have hm:(jg [] kvs).length<=aj:=by
   have h1:=mB kvs [];rw[List.length_nil]at h1;rw[ai]at hz;omega
  exact⟨.ref s.heap.objs.size,_,I.laid (o:=.dK (jg [] kvs)) kp (ax _) (FL hm (beq_eq_false_iff_ne.mpr (ix (db I.big))) (rel.merge .nil) hD),rfl,q _ I.fresh⟩
end
abbrev dh:R2:=BN fun i j=>.int (i+j)
abbrev qP:R2:=BN fun i j=>.int (i-j)
abbrev kR:R2:=rI Gd fun i j=>.int (i * j)
abbrev iG:R2:=rI (fun _ j=>0<j) fun i j=>.int (i % j)
abbrev EQ:R2:=rI JC fun i j=>.int (i / j)
abbrev HM:R2:=rI JB fun i j=>.int (i ^ j.toNat)
abbrev EN:R2:=BN fun i j=>.bl (decide (i<j))
abbrev rLeI:R2:=BN fun i j=>.bl (decide (i<=j))
abbrev u8:R2:=BN fun i j=>.bl (decide (j<i))
abbrev Iq:R2:=BN fun i j=>.bl (decide (j<=i))
abbrev HP:R2:=fun x y H Q=>∃i j,x=.str i/\y=.str j/\i.length+j.length<=aj/\Q (.str (i++j)) H
abbrev rInS:R2:=fun x y H Q=>∃c j,x=.str ⟨#[c]⟩/\y=.str j/\Q (.bl (decide (c∈j.cps.toList))) H
abbrev Jf(K:Za):List V->Hp->VK->Prop:=fun xs H Q=>∃(p:Addr) (bs:List Bool),xs=[.ref p]/\az K H p (bs.map V.bl)/\Q (.bl (bs.all id)) H
abbrev tL(K:Za):List V->Hp->VK->Prop:=fun xs H Q=>∃p ys,xs=[.ref p]/\((az K H p ys/\∀l,H l=none->Q (.ref l) (upd H l (.tup ys)))∨(bE K H p ys/\Q (.ref p) H))
abbrev GU(K:Za):List V->Hp->VK->Prop:=fun xs H Q=>∃(l:Addr) (ts:Ze) (kvs:List (fw×V)),xs=[.ref l]/\az K H l (ts.map V.ref)/\ts.length=kvs.length /\
  (∀(j:Nat) (t:Addr) (kv:fw×V),ts[j]?=some t->kvs[j]?=some kv->H t=some (.tup [kV kv.1,kv.2]))/\∀p,H p=none->Q (.ref p) (upd H p (.dK (jg [] kvs)))
abbrev eo(K:Za):List V->Hp->VK->Prop:=fun xs H Q =>
 (∃p ys,xs=[.ref p]/\(az K H p ys∨bE K H p ys)/\∀l,H l=none->Q (.ref l) (upd H l (.lst ys))) ∨
 (∃(d:Addr) (kvs:List (fw×V)),xs=[.ref d]/\Rd H d (.dK kvs)/\∀l,H l=none->Q (.ref l) (upd H l (.lst (kvs.map fun kv=>kV kv.1))))
abbrev iH(K:Za):List V->Hp->VK->Prop:=fun xs H Q =>
 (∃p ys,xs=[.ref p]/\(az K H p ys∨bE K H p ys)/\Q (.int ys.length) H)∨(∃z,xs=[.str z]/\z.length<=aj/\Q (.int z.length) H)
theorem Bg:mr "list"=some (.type "list"):=by decide +kernel
theorem eD:mr "tuple"=some (.type "tuple"):=by decide +kernel
theorem Bh:mr "dict"=some (.type "dict"):=by decide +kernel
section
variable{X:Cx}{p pos:Pos}
theorem DO:fW X (.builtin "len") (iH X.K):=xY.or xX
theorem Bf(hc:X.calm=true):fW X (.type "list") (eo X.K):=xW.or (uz hc)
end
def Gc(mg:Str->Option Value)(x:Str)(v:V):Prop:=∃u,mg x=some u/\RelV v u
theorem fh{X:Cx}{x:Str}{v:V}{pos:Pos}(hg:Gl X x)(h:Gc X.mg x v)(hd:(x==("__debug__":Str))=false:=by decide):PE X (.Name x pos) (tC v):=by
 obtain⟨u,hm,r⟩:=h;exact GY hg hm r hd
structure ga(P:bO)(w:World)(K:Za)(mg:Str->Option Value)(base:Heap)(x:Str)(ps:Zb)(k:Nat)(sp:Sp):Prop where
 ex:∃f fd,lm P w K mg base CX0 k f fd ps sp/\mg x=some (.ref f)/\gK K (.ref f)=true/\Binds K fd ps []
structure Jv(P:bO)(w:World)(K:Za)(mg:Str->Option Value)(base:Heap)(x:Str)(C:Addr)(ps:Zb)(k:Nat)(sp:Sp):Prop where
 ex:∃f fd,lm P w K mg base CX0 k f fd ps sp/\mg x=some (.ref C)/\Mk K C f/\Binds K fd ps []
structure mj(P:bO)(w:World)(K:Za)(mg:Str->Option Value)(base:Heap)(C:Addr)(m:Str)(ps:Zb)(k:Nat)(sp:Sp):Prop where
 ex:∃f fd,lm P w K mg base CX0 k f fd ps sp/\CF K C/\HD K C m f/\Binds K fd ps []
section
variable{X:Cx}{k:Nat}{ps:Zb}{sp:Sp}{x m:Str}{C:Addr}{p pos J7:Pos}{o e:Expr}{es:List Expr}{t:TA}{ta:TE}
theorem Ji(D:ga X.prog X.w X.K X.mg X.base x ps k sp)(hr:eO k X.A)(hg:Gl X x)(ha:PA X (e::es) t)(hdb:(x==("__debug__":Str))=false:=by decide)
  (he:aF (e::es) X.env=(false,eval e X.env)::aF es X.env:=by rfl) (hpl:(backTo pos (aF es X.env)).any (·.1)=false:=by rfl) :
  PE X (.Call (.Name x p) (e::es) [] pos) (aN sp t):=by
 obtain⟨f,fd,F,hm,hk,hb⟩:=D.ex;exact G0 F hr hg hm hk hb .nil BY ha hdb he hpl
theorem xA(D:Jv X.prog X.w X.K X.mg X.base x C ps k sp)(hr:eO (k+1) X.A)(hg:Gl X x)(ha:PA X (e::es) t)(hdb:(x==("__debug__":Str))=false:=by decide)
  (he:aF (e::es) X.env=(false,eval e X.env)::aF es X.env:=by rfl) (hpl:(backTo pos (aF es X.env)).any (·.1)=false:=by rfl) :
  PE X (.Call (.Name x p) (e::es) [] pos) (vv C sp [] E0 t):=by
 obtain⟨f,fd,F,hm,M,hb⟩:=D.ex;exact GX M F hr hg hm hb .nil BY ha hdb he hpl
theorem Iy{pl:Sem Bool}(M:mj X.prog X.w X.K X.mg X.base C m ps k sp)(hr:eO k X.A)(he:PE X o ta)(ha:PA X (e::es) t)
  (hst:aF (e::es) X.env=(false,eval e X.env)::aF es X.env:=by rfl) (hpl:(backTo pos (aF es X.env)).any (·.1)=false:=by rfl)
  (ht:eval (.Call (.Attribute o m J7) (e::es) [] pos) X.env=(do
   let ov <- eval o X.env
   qK J7.atName
   let(f,first) <- kz [ov] (qI ov m pl)
   vg pos f first (backTo pos (aF (e::es) X.env)) (nO pos (nN [] X.env))):=by rfl) :
  PE X (.Call (.Attribute o m J7) (e::es) [] pos) (bZ C m sp [] E0 ta t):=by
 obtain⟨f,fd,F,c,hm,hb⟩:=M.ex;exact GW he c hm F hr hb .nil BY ha hst hpl ht
theorem GV{pl:Sem Bool}(M:mj X.prog X.w X.K X.mg X.base C m ps k sp)(hr:eO k X.A)(he:PE X o ta)
  (ht:eval (.Call (.Attribute o m J7) [] [] pos) X.env=(do
   let ov <- eval o X.env
   qK J7.atName
   let(f,first) <- kz [ov] (qI ov m pl)
   vg pos f first (backTo pos (aF [] X.env)) (nO pos (nN [] X.env))):=by rfl) :
  PE X (.Call (.Attribute o m J7) [] [] pos) (bZ C m sp [] E0 ta bL):=by
 obtain⟨f,fd,F,c,hm,hb⟩:=M.ex;exact E_ he c hm F hr hb .nil BY ht
end
def Jq(K:Za)(tl:TE):TI:=fun σ H R=>tl σ H fun x H1=>∃a,x=.ref a/\(((∃xs,az K H1 a xs)/\R (Gf K a) H1)∨((∃xs,bE K H1 a xs)/\R (IR K a) H1))
theorem Iw{X:Cx}{tg l:Expr}{tl:TE}(hl:PE X l tl):PI X tg l (Jq X.K tl):=by
 intro J5 s σ H R I h;refine cz (hl J5 s σ H _ I h) fun v s1 ⟨x,H1,I1,r1,q1⟩=>?_;obtain⟨a,e,q⟩:=q1;subst e;cases r1;have fin:∀b∈[s1.heap.objs.size],mm X J5 H1 b:=fun b hb=>by
  have e:b=s1.heap.objs.size:=by simpa using hb
  subst e;exact I1.fpOk (ax _) (I1.hok.fresh (ax _))
 rcases q with⟨⟨xs,hq⟩,q⟩|⟨⟨xs,hq⟩,q⟩
 ·obtain⟨its,rv,p,hz⟩:=I1.list hq;refine BA p.isList ?_;exact⟨s1.heap.objs.size,[s1.heap.objs.size],_,_,H1,rfl,I1.kept (t':=s1.toks) fun b o e=>bq _ e,vo a _,⟨_,da _ rfl,rfl,rfl⟩,fin,q⟩
 ·obtain⟨its,rv,p,hz⟩:=I1.tuple hq;refine Bz p ?_;exact⟨s1.heap.objs.size,[s1.heap.objs.size],_,_,H1,rfl,I1.kept (t':=s1.toks) fun b o e=>bq _ e,tf a _,⟨_,da _ rfl,rfl,rfl⟩,fin,q⟩
theorem jy{K:Za}{a:Addr}{xs:List V}{g:TG}{tb:TS}{D:rY}{σ:St}{H:Hp}(Pv:Nat->St->Hp->Prop)(h0:Pv 0 σ H)(hl:∀i σ H,i<=xs.length->Pv i σ H->az K H a xs)
  (hs:∀i x σ H p,xs[i]?=some x->Pv i σ H->H p=none->g (.ref p) σ (upd H p (.tup [.int i,x])) fun σ2 H2=>tb { D with nx:=Pv (i+1),ct:=Pv (i+1),bk:=D.nx } σ2 H2) (hd:∀σ H,Pv xs.length σ H->D.nx σ H) :
  ∃W:Nat->Nat->St->Hp->Prop,(∃m,W 0 m σ H)/\∀i m σ H,W i m σ H ->
   ((Jy K a).stop i H/\D.nx σ H)∨((Jy K a).go i H/\∃N:St->Hp->Prop,(∀σ' H',N σ' H'->∃m',m'<m/\W (i+1) m' σ' H')/\∀x H',(Jy K a).yld i H x H'->g x σ H' fun σ2 H2=>tb { D with nx:=N,ct:=N,bk:=D.nx } σ2 H2):=by
 refine⟨fun i m σ H=>m=xs.length-i/\i<=xs.length/\Pv i σ H,⟨xs.length,by simp,cG _,h0⟩,?_⟩;rintro i m σ H ⟨rfl,hi,p⟩;have q:=hl i σ H hi p;by_cases hlt:i<xs.length
 ·refine .inr ⟨⟨xs,xs[i],q,by simp[hlt]⟩,Pv (i+1),fun σ' H' p'=>⟨xs.length-(i+1),by omega,rfl,hlt,p'⟩,fun x H' y=>?_⟩;obtain⟨t,v,rfl,hn,hv,rfl⟩:=y;exact hs i v σ H t (hv xs q) p hn
 ·have e:i=xs.length:=by omega
  subst e;exact .inl ⟨⟨xs,q,ax _⟩,hd σ H p⟩
def Wc(n:Nat)(Pv:Nat->List V->Hp->Prop):Nat->Nat->List V->Hp->Prop:=fun i m vs H=>m=n-i/\i<=n/\Pv i vs H
theorem ni{n i:Nat}{Pv:Nat->List V->Hp->Prop}{vs:List V}{H:Hp}(hi:i<n)(p:Pv (i+1) vs H):∃m',m'<n-i/\Wc n Pv (i+1) m' vs H:=⟨n-(i+1),by omega,rfl,hi,p⟩
abbrev dO(k:Nat)(fi:List Nat)(σ:St)(J:It)(g:TG)(tc:TT)(te:TE)(H1:Hp)(l:Addr)(Q:Hp->Prop):Prop :=
 ∃W:Nat->Nat->List V->Hp->Prop,(∃m,W 0 m [] (upd H1 l (.lst [])))/\∀i m vs H2,W i m vs H2->H2 l=some (.lst vs) /\
  ((J.stop i H2/\Q H2)∨(J.go i H2/\∀x H3,J.yld i H2 x H3->g x (dD k fi σ) H3 fun σ2 H4=>tc σ2 H4 fun b H5 =>
   if b=true then te σ2 H5 fun v H6=>H6 l=some (.lst vs)/\vs.length<aj/\∃m',m'<m/\W (i+1) m' (vs++[v]) (upd H6 l (.lst (vs++[v])))else ∃m',m'<m/\W (i+1) m' vs H5))
theorem jB{k:Nat}{fi:List Nat}{J:It}{g:TG}{tc:TT}{te:TE}{σ:St}{H1:Hp}{Q:Hp->Prop}{l:Addr}(n:Nat)(Pv:Nat->List V->Hp->Prop)(h0:Pv 0 [] (upd H1 l (.lst [])))
  (hl:∀i vs H,i<=n->Pv i vs H->H l=some (.lst vs)) (hgo:∀i vs H,i<n->Pv i vs H->J.go i H) (hst:∀vs H,Pv n vs H->J.stop n H/\Q H)
  (hs:∀i vs H x H3,i<n->Pv i vs H->J.yld i H x H3->g x (dD k fi σ) H3 fun σ2 H4=>tc σ2 H4 fun b H5 =>
   if b=true then te σ2 H5 fun v H6=>H6 l=some (.lst vs)/\vs.length<aj/\∃m',m'<n-i/\Wc n Pv (i+1) m' (vs++[v]) (upd H6 l (.lst (vs++[v])))else ∃m',m'<n-i/\Wc n Pv (i+1) m' vs H5) :
  dO k fi σ J g tc te H1 l Q:=by
 refine⟨Wc n Pv,⟨n,by simp[Wc],cG _,h0⟩,?_⟩;rintro i m vs H ⟨rfl,hi,p⟩;refine⟨hl i vs H hi p,?_⟩;by_cases hlt:i<n
 ·exact .inr ⟨hgo i vs H hlt p,fun x H3 y=>hs i vs H x H3 hlt p y⟩
 ·have e:i=n:=by omega
  subst e;exact .inl (hst vs H p)
section
variable{K:Za}{k:Nat}{fi:List Nat}{g:TG}{tc:TT}{te:TE}{σ:St}{H1:Hp}{Q:Hp->Prop}{l:Addr}
theorem cx{a:Addr}{xs:List V}(Pv:Nat->List V->Hp->Prop)(h0:Pv 0 [] (upd H1 l (.lst [])))
  (hl:∀i vs H,i<=xs.length->Pv i vs H->H l=some (.lst vs)/\az K H a xs) (hd:∀vs H,Pv xs.length vs H->Q H)
  (hs:∀i vs H x,xs[i]?=some x->i<xs.length->Pv i vs H->g x (dD k fi σ) H fun σ2 H4=>tc σ2 H4 fun b H5 =>
   if b=true then te σ2 H5 fun v H6=>H6 l=some (.lst vs)/\vs.length<aj/\∃m',m'<xs.length-i/\Wc xs.length Pv (i+1) m' (vs++[v]) (upd H6 l (.lst (vs++[v])))else ∃m',m'<xs.length-i/\Wc xs.length Pv (i+1) m' vs H5) :
  dO k fi σ (Gf K a) g tc te H1 l Q:=by
 refine jB xs.length Pv h0 (fun i vs H hi p=>(hl i vs H hi p).1) (fun i vs H hi p=>⟨xs,xs[i],(hl i vs H (c6 hi) p).2,by simp[hi]⟩) (fun vs H p=>⟨⟨xs,(hl _ vs H (ax _) p).2,ax _⟩,hd vs H p⟩) fun i vs H x H3 hi p y=>?_;obtain⟨rfl,y⟩:=y;exact hs i vs _ x (y xs (hl i vs _ (c6 hi) p).2) hi p
theorem pb{a:Addr}{xs:List V}(Pv:Nat->List V->Hp->Prop)(h0:Pv 0 [] (upd H1 l (.lst [])))
  (hl:∀i vs H,i<=xs.length->Pv i vs H->H l=some (.lst vs)/\bE K H a xs) (hd:∀vs H,Pv xs.length vs H->Q H)
  (hs:∀i vs H x,xs[i]?=some x->i<xs.length->Pv i vs H->g x (dD k fi σ) H fun σ2 H4=>tc σ2 H4 fun b H5 =>
   if b=true then te σ2 H5 fun v H6=>H6 l=some (.lst vs)/\vs.length<aj/\∃m',m'<xs.length-i/\Wc xs.length Pv (i+1) m' (vs++[v]) (upd H6 l (.lst (vs++[v])))else ∃m',m'<xs.length-i/\Wc xs.length Pv (i+1) m' vs H5) :
  dO k fi σ (IR K a) g tc te H1 l Q:=by
 refine jB xs.length Pv h0 (fun i vs H hi p=>(hl i vs H hi p).1) (fun i vs H hi p=>⟨xs,xs[i],(hl i vs H (c6 hi) p).2,by simp[hi]⟩) (fun vs H p=>⟨⟨xs,(hl _ vs H (ax _) p).2,ax _⟩,hd vs H p⟩) fun i vs H x H3 hi p y=>?_;obtain⟨rfl,y⟩:=y;exact hs i vs _ x (y xs (hl i vs _ (c6 hi) p).2) hi p
theorem Bc{lo:Int}{n:Nat}(Pv:Nat->List V->Hp->Prop)(h0:Pv 0 [] (upd H1 l (.lst [])))
  (hl:∀i vs H,i<=n->Pv i vs H->H l=some (.lst vs)) (hd:∀vs H,Pv n vs H->Q H)
  (hs:∀i vs H,i<n->Pv i vs H->g (.int (lo+i)) (dD k fi σ) H fun σ2 H4=>tc σ2 H4 fun b H5 =>
   if b=true then te σ2 H5 fun v H6=>H6 l=some (.lst vs)/\vs.length<aj/\∃m',m'<n-i/\Wc n Pv (i+1) m' (vs++[v]) (upd H6 l (.lst (vs++[v])))else ∃m',m'<n-i/\Wc n Pv (i+1) m' vs H5) :
  dO k fi σ (IS lo n) g tc te H1 l Q:=by
 refine jB n Pv h0 hl (fun i vs H hi p=>hi) (fun vs H p=>⟨ax _,hd vs H p⟩) fun i vs H x H3 hi p y=>?_;obtain⟨rfl,rfl⟩:=y;exact hs i vs _ hi p
theorem FT{x:Str}(Pv:Nat->List V->Hp->Prop)(h0:Pv 0 [] (upd H1 l (.lst [])))
  (hl:∀i vs H,i<=x.cps.size->Pv i vs H->H l=some (.lst vs)) (hd:∀vs H,Pv x.cps.size vs H->Q H)
  (hs:∀i vs H c,x.cps[i]?=some c->i<x.cps.size->Pv i vs H->g (.str ⟨#[c]⟩) (dD k fi σ) H fun σ2 H4=>tc σ2 H4 fun b H5 =>
   if b=true then te σ2 H5 fun v H6=>H6 l=some (.lst vs)/\vs.length<aj/\∃m',m'<x.cps.size-i/\Wc x.cps.size Pv (i+1) m' (vs++[v]) (upd H6 l (.lst (vs++[v])))else ∃m',m'<x.cps.size-i/\Wc x.cps.size Pv (i+1) m' vs H5) :
  dO k fi σ (JP x) g tc te H1 l Q:=by
 refine jB x.cps.size Pv h0 hl (fun i vs H hi p=>hi) (fun vs H p=>⟨ax _,hd vs H p⟩) fun i vs H y H3 hi p yl=>?_;obtain⟨rfl,c,hc,rfl⟩:=yl;exact hs i vs _ c hc hi p
end
theorem gN{j:Nat}{x:V}{σ:St}{H:Hp}{Q:St->Hp->Prop}(h:Q (σ.set j (some x)) H):d6 j x σ H Q:=h
theorem pH{σ:St}{H:Hp}{A B:Hp->Prop}(h:A H):ic σ H (fun b H5=>if b=true then A H5 else B H5):=by
 show(if(true:Bool)=true then A H else B H)
 exact h
theorem vC{α β:Type}{F:α->β->Prop}:∀{l₁:List α}{l₂:List β},Paired F l₁ l₂->∀{i:Nat}{a:α}{b:β},l₁[i]?=some a->l₂[i]?=some b->F a b
 |_,_,.nil,_,_,_,h,_=>by simp at h
 |_,_,.cons r t,0,_,_,h,h'=>by simp at h h';subst h h';exact r
 |_,_,.cons r t,i+1,_,_,h,h'=>by simp at h h';exact vC t h h'
end L2
namespace L2
open PySem PySem.W
section
variable{X:Cx}
theorem BI:∀{ns:List Int}{its:Zf},aR (ns.map V.int) its->∃xs:List (Int×Tok),its=xs.map (fun p=>Value.int p.1 p.2)/\xs.map (·.1)=ns
 |[],_,r=>by cases r;exact⟨[],rfl,rfl⟩
 |n::ns,_,r=>by
  cases r with
  |cons r1 r2 =>
   obtain⟨t,rfl⟩:=r1;obtain⟨xs,e1,e2⟩:=BI r2;exact⟨(n,t)::xs,by rw[e1];rfl,by rw[bg,e2]⟩
end
def Ev(K:Za)(td ty tv:TE):TS:=fun D σ H=>tv σ H fun v H1=>td σ H1 fun x H2=>ty σ H2 fun y H3 =>
 ∃(a b:Addr) (kvs:List (TK×V)) (k:TK),x=.ref a/\y=.ref b/\H3 a=some (.dT kvs)/\q_ K H3 k (.ref b)/\k.depth<=8/\kvs.length<aj/\D.nx σ (upd H3 a (.dT (dz kvs k v)))
section
variable{X:Cx}{o i value:Expr}{pos pos':Pos}{td ty tv:TE}
theorem EV(hu:X.A.units+16<cLine)(ho:PE X o td)(hi:PE X i ty)(hv:PE X value tv)(hs:qJ value (some (.Subscript o i pos')) pos.line X.env=pure false):
  PS X (.Assign [.Subscript o i pos'] value pos) (Ev X.K td ty tv):=by
 intro J5 s σ H D I h;refine wpAny_Assign_Subscript (cz (hv J5 s σ H _ I h) fun r s1 ⟨v,H1,I1,rv,q1⟩=>cz (ho J5 s1 σ H1 _ I1 q1) fun u s2 ⟨x,H2,I2,rx,q2⟩=>cz (hi J5 s2 σ H2 _ I2 q2) fun iv s3 ⟨y,H3,I3,ry,a,b,kvs,k,ex,ey,e,eb,e8,l,q3⟩=>?_) hs;subst ex;subst ey;obtain rfl:u=Value.ref a:=rx;exact A_ hu I3 e eb e8 l ry rv fun s4 I4=>⟨σ,_,I4,q3⟩
end
theorem vt{K:Za}{H:Hp}:∀xs:List Str,TKCs K H (xs.map fun x=>TK.k (some (.inr x))) (xs.map V.str)
 |[]=>by show TKCs K H [] [];unfold TKCs;rfl
 |x::xs=>by
  rw[bg,bg];unfold TKCs;refine⟨_,_,rfl,?_,vt xs⟩;unfold q_
  rfl
theorem Et{K:Za}{H:Hp}{a:Addr}{xs:Zb}(h:aV K H a (xs.map V.str)):q_ K H (.t (xs.map fun x=>TK.k (some (.inr x)))) (.ref a):=by
 unfold q_;exact⟨a,_,rfl,h,vt xs⟩
end L2
end

section
set_option Elab.async false
set_option linter.all false
set_option maxRecDepth 100000
namespace L2
open PySem PySem.Spec PyProof.Rows PySem.W
def HG:Expr->List Str
 |.Name x _=>[x]
 |.Tuple es _ _=>es.filterMap fun e=>match e with | .Name x _=>some x|_=>none
 |_=>[]
theorem bK{X:Cx}{b:List Stmt}{t:TS}{D:rY}{σ:St}{H:Hp}(r:t D σ H)(p:Ae X b t):∃t,Ae X b t/\t D σ H:=⟨t,p,r⟩
section
variable{X:Cx}{k k0:Nat}{ps:Zb}{sp:Sp}{x m:Str}{C:Addr}{p pos J7:Pos}{o e a b:Expr}{es:List Expr}{t:TA}{ta tb te:TE}
theorem qf(hr:eO k0 X.A)(D:ga X.prog X.w X.K X.mg X.base x ps k sp)(ha:PA X (e::es) t)(hk:k<=k0:=by decide)(hg:Gl X x:=by rfl)(hdb:(x==("__debug__":Str))=false:=by decide)
  (he:aF (e::es) X.env=(false,eval e X.env)::aF es X.env:=by rfl) (hpl:(backTo pos (aF es X.env)).any (·.1)=false:=by rfl) :
  PE X (.Call (.Name x p) (e::es) [] pos) (aN sp t):=Ji D (hr.mono hk) hg ha hdb he hpl
theorem qm{pl:Sem Bool}(hr:eO k0 X.A)(M:mj X.prog X.w X.K X.mg X.base C m ps k sp)(he:PE X o ta)(ha:PA X (e::es) t)(hk:k<=k0:=by decide)
  (hst:aF (e::es) X.env=(false,eval e X.env)::aF es X.env:=by rfl) (hpl:(backTo pos (aF es X.env)).any (·.1)=false:=by rfl)
  (ht:eval (.Call (.Attribute o m J7) (e::es) [] pos) X.env=(do
   let ov <- eval o X.env
   qK J7.atName
   let(f,first) <- kz [ov] (qI ov m pl)
   vg pos f first (backTo pos (aF (e::es) X.env)) (nO pos (nN [] X.env))):=by rfl) :
  PE X (.Call (.Attribute o m J7) (e::es) [] pos) (bZ C m sp [] E0 ta t):=Iy (pl:=pl) M (hr.mono hk) he ha hst hpl ht
theorem Ir{pl:Sem Bool}(hr:eO k0 X.A)(M:mj X.prog X.w X.K X.mg X.base C m ps k sp)(he:PE X o ta)(hk:k<=k0:=by decide)
  (ht:eval (.Call (.Attribute o m J7) [] [] pos) X.env=(do
   let ov <- eval o X.env
   qK J7.atName
   let(f,first) <- kz [ov] (qI ov m pl)
   vg pos f first (backTo pos (aF [] X.env)) (nO pos (nN [] X.env))):=by rfl) :
  PE X (.Call (.Attribute o m J7) [] [] pos) (bZ C m sp [] E0 ta bL):=GV (pl:=pl) M (hr.mono hk) he ht
theorem xl(ha:PE X a ta)(hb:PE X b tb)(hs:DS b:=by exact fun _ _=>rfl):PE X (.Subscript a b pos) (aD (d7 X.K) ta tb):=BV B9 ha hb hs
theorem xt(ha:PE X a ta)(hb:PE X b tb)(hs:DS b:=by exact fun _ _=>rfl):PE X (.Subscript a b pos) (aD (hV X.K) ta tb):=BV Fu ha hb hs
theorem xq(ha:PE X a ta)(hb:PE X b tb)(hs:DS b:=by exact fun _ _=>rfl):PE X (.Subscript a b pos) (aD (rL X.K) ta tb):=BV IE ha hb hs
theorem xs'(ha:PE X a ta)(hb:PE X b tb)(hs:DS b:=by exact fun _ _=>rfl):PE X (.Subscript a b pos) (aD EO ta tb):=BV Fv ha hb hs
theorem jn{op:CmpOp}{r:R2}(ho:lg X (ee op) r)(ha:PE X a ta)(hb:PE X b tb)(hm:ke op b=false:=by exact Fj _):PT X (.Compare a [op] [b] pos) (aW (aD r ta tb)):=BQ ho ha hb hm
theorem Ec{op:CmpOp}{r:R2}(ho:lg X (ee op) r)(ha:PE X a ta)(hb:PE X b tb)(hm:ke op b=false:=by exact Fj _):PE X (.Compare a [op] [b] pos) (aD r ta tb):=BW ho ha hb hm
theorem Ig{op:CmpOp}{r:R2}(ho:lg X (ee op) r)(ha:PE X a ta)(hb:PE X b tb)(hm:ke op b=false:=by with_unfolding_all rfl):PT X (.Compare a [op] [b] pos) (aW (aD r ta tb)):=BQ ho ha hb hm
theorem eci{op:CmpOp}{r:R2}(ho:lg X (ee op) r)(ha:PE X a ta)(hb:PE X b tb)(hm:ke op b=false:=by with_unfolding_all rfl):PE X (.Compare a [op] [b] pos) (aD r ta tb):=BW ho ha hb hm
theorem qB{id:String}{r:List V->Hp->VK->Prop}(hc:fW X (.builtin id) r)(hm:X.mg x=none)(hv:mr x=some (.builtin id))(ha:PA X (e::es) t)(hg:Gl X x:=by rfl)(hn:x≠"__name__":=by decide)(hdb:(x==("__debug__":Str))=false:=by decide)
  (he:aF (e::es) X.env=(false,eval e X.env)::aF es X.env:=by rfl) (hpl:(backTo pos (aF es X.env)).any (·.1)=false:=by rfl):PE X (.Call (.Name x p) (e::es) [] pos) (gP r t):=zn hc hg hm hv ha hn hdb he hpl
theorem qL(hc:X.calm=true)(hm:X.mg "list"=none)(ha:PA X (e::es) t)(hg:Gl X "list":=by rfl)
  (he:aF (e::es) X.env=(false,eval e X.env)::aF es X.env:=by rfl) (hpl:(backTo pos (aF es X.env)).any (·.1)=false:=by rfl):PE X (.Call (.Name "list" p) (e::es) [] pos) (gP (eo X.K) t):=eJ (Bf hc) hg hm Bg ha (by decide) (by decide) he hpl
theorem ql(hm:X.mg "len"=none)(ha:PA X (e::es) t)(hg:Gl X "len":=by rfl)
  (he:aF (e::es) X.env=(false,eval e X.env)::aF es X.env:=by rfl) (hpl:(backTo pos (aF es X.env)).any (·.1)=false:=by rfl):PE X (.Call (.Name "len" p) (e::es) [] pos) (gP (iH X.K) t):=zn DO hg hm PySem.boot_len ha (by decide) (by decide) he hpl
theorem qs(i:Nat){pos':Pos}(hN:X.N.Nodup)(he:PE X e te)(hi:X.N[i]?=some x:=by rfl)(hx:Loc X.env.scope x:=by first|exact Or.inl rfl|exact Or.inr rfl)(hs:qJ e (some (.Name x pos')) pos.line X.env=pure false:=by rfl)(hf:X.fn x=true∨X.env.scope.names.lookup x=some .local:=by first|exact .inl rfl|exact .inr rfl|assumption):
  PS X (.Assign [.Name x pos'] e pos) (aI te (d6 i)):=Iu hN hi hx he hs hf
theorem gn(i:Nat)(hN:X.N.Nodup)(hi:X.N[i]?=some x:=by rfl)(hx:Loc X.env.scope x:=by first|exact Or.inl rfl|exact Or.inr rfl)(hf:X.fn x=true∨X.env.scope.names.lookup x=some .local:=by first|exact .inl rfl|exact .inr rfl|assumption):PG X (.Name x pos) (d6 i):=BU hN hi hx hf
theorem gc(i:Nat)(hN:X.N.Nodup:=by exact of_decide_eq_true (by with_unfolding_all rfl))(hi:X.N[i]?=some x:=by rfl)(hx:Loc X.env.scope x:=by exact Or.inl rfl)(hf:X.fn x=true∨X.env.scope.names.lookup x=some .local:=by first|exact .inl rfl|exact .inr rfl|assumption):PG X (.Name x pos) (d6 i):=BU hN hi hx hf
theorem a1(ha:PE X a ta)(hs:aF [a] X.env=(false,eval a X.env)::aF [] X.env:=by rfl):PA X [a] (aw ta bL):=bu ha cP hs
theorem a2(ha:PE X a ta)(hb:PE X b tb)(hs:aF [a,b] X.env=(false,eval a X.env)::aF [b] X.env:=by rfl)(hs2:aF [b] X.env=(false,eval b X.env)::aF [] X.env:=by rfl):PA X [a,b] (aw ta (aw tb bL)):=bu ha (bu hb cP hs2) hs
theorem a3{c:Expr}{tc:TE}(ha:PE X a ta)(hb:PE X b tb)(hc:PE X c tc)(hs:aF [a,b,c] X.env=(false,eval a X.env)::aF [b,c] X.env:=by rfl)(hs1:aF [b,c] X.env=(false,eval b X.env)::aF [c] X.env:=by rfl)(hs2:aF [c] X.env=(false,eval c X.env)::aF [] X.env:=by rfl):PA X [a,b,c] (aw ta (aw tb (aw tc bL))):=bu ha (a2 hb hc hs1 hs2) hs
variable{elt iter tg:Expr}{ifs:List Expr}{scope:Scope}{fi:List Nat}{wi:TI}{g:TG}{tc:TT}
theorem qc(hi:PI X tg iter wi)(ho:zX k g)
  (h:∀C cl s₀ H₀ ex pn,PG (dE X (HG tg++fi.map fun i=>X.N.getD i "") scope C cl s₀ H₀ ex pn) tg g/\Ia (dE X (HG tg++fi.map fun i=>X.N.getD i "") scope C cl s₀ H₀ ex pn) ifs tc/\PE (dE X (HG tg++fi.map fun i=>X.N.getD i "") scope C cl s₀ H₀ ex pn) elt te)
  (hS:lQ X.env.scope scope k (HG tg++fi.map fun i=>X.N.getD i "") X.N fi=true:=by with_unfolding_all rfl) (hc:X.calm=true:=by rfl)
  (hs:∀x,yB iter X.env x=pure x:=by intro _;rfl):PE X (.ListComp elt [⟨tg,iter,ifs,0⟩] scope pos) (cA k fi wi g tc te) :=
 GZ hS hc hi (fun _ _ _ _ _ _=>(h _ _ _ _ _ _).1) ho (fun _ _ _ _ _ _=>(h _ _ _ _ _ _).2.1) (fun _ _ _ _ _ _=>(h _ _ _ _ _ _).2.2) hs
theorem Jg(j:Nat){y:Str}{spos py:Pos}(hN:X.N.Nodup)(hi:PI X tg iter wi)(ho:zX k g)
  (h:∀C cl s₀ H₀ ex pn,PG (dE X (HG tg++fi.map fun i=>X.N.getD i "") scope C cl s₀ H₀ ex pn) tg g/\Ia (dE X (HG tg++fi.map fun i=>X.N.getD i "") scope C cl s₀ H₀ ex pn) ifs tc/\PE (dE X (HG tg++fi.map fun i=>X.N.getD i "") scope C cl s₀ H₀ ex pn) elt te)
  (hj:X.N[j]?=some y:=by rfl) (hy:Loc X.env.scope y:=by first|exact Or.inl rfl|exact Or.inr rfl)
  (hS:lQ X.env.scope scope k (HG tg++fi.map fun i=>X.N.getD i "") X.N fi=true:=by with_unfolding_all rfl) (hc:X.calm=true:=by rfl)
  (hsw:qJ (.ListComp elt [⟨tg,iter,ifs,0⟩] scope pos) (some (.Name y py)) spos.line X.env=pure true:=by rfl)
  (hs:∀x,yB iter X.env x=pure x:=by intro _;rfl) (hf:X.fn y=true∨X.env.scope.names.lookup y=some .local:=by first|exact .inl rfl|exact .inr rfl|assumption) :
  PS X (.Assign [.Name y py] (.ListComp elt [⟨tg,iter,ifs,0⟩] scope pos) spos) (aI (cA k fi wi g tc te) (d6 j)) :=
 AL hN hj hy hS hc hi (fun _ _ _ _ _ _=>(h _ _ _ _ _ _).1) ho (fun _ _ _ _ _ _=>(h _ _ _ _ _ _).2.1) (fun _ _ _ _ _ _=>(h _ _ _ _ _ _).2.2) hsw hs hf
end
end L2
end

section
set_option Elab.async false
set_option linter.all false
set_option maxRecDepth 100000
namespace L2
open PySem PySem.Spec PyProof.Rows
structure FZ(h:Heap)(d:Addr)(es:Array kE)(ep:Nat):Prop where
 ex:∃o,h.get? d=some o/\o.ExactDict/\o.data=.dict es ep
section
variable{prog:bO}{w:World}{A:Around}{E:Zc}{s:Shared}{d v it:Addr}{es:Array kE}{ep i:Nat}
theorem FZ.ty(h:FZ s.heap d es ep):s.TypeIs (.ref d) "dict":=let⟨o,ho,e,_⟩:=h.ex;⟨o,ho,e.1⟩
end
structure IT(P:bO)(w:World)(K:Za)(d:Addr)(o:Obj)(u:HO)(n:Nat)(ent:Nat->Hp->V->V->Prop)(es:Array kE)(ep:Nat):Prop where
 ex:o.ExactDict
 dat:o.data=.dict es ep
 sz:es.size=n
 get:∀{H:Hp}{h:Heap}{i:Nat}(hi:i<es.size),lT P w K H h->H d=some (.frz o u)->∃a b,ent i H a b/\RelV a es[i].key/\RelV b es[i].val
def Hj(K:Za)(kvs:List (TK×V)):Nat->Hp->V->V->Prop:=fun i H a b=>∃k,kvs[i]?=some (k,b)/\q_ K H k a
theorem vP{P:bO}{w:World}{K:Za}{H:Hp}{h:Heap}{d:Addr}{o:Obj}{kvs:List (TK×V)}(hok:lT P w K H h)(e:H d=some (.frz o (.dT kvs))):
  (d==ia)=false/\∃es ep,IT P w K d o (.dT kvs) kvs.length (Hj K kvs) es ep:=by
 obtain⟨g,z,hsys,xs,rel,o',es,ep,ho',ex,hd,hes,nd⟩:=(show cB P w K H h d (.frz o (.dT kvs))from hok d _ e);rw[g]at ho';cases ho';have hl:es.size=xs.length:=by rw[<-mq,hes,ai]
 refine⟨hsys,es,ep,ex,hd,by rw[hl,Paired.length rel],fun{H' h' i} hi hok' e'=>?_⟩;obtain⟨g',z',hsys',xs',rel',o'',es',ep',ho'',ex',hd',hes',nd'⟩:=(show cB P w K H' h' d (.frz o (.dT kvs))from hok' d _ e');rw[g']at ho'';cases ho'';rw[hd]at hd';cases hd';have hl':es.size=xs'.length:=by rw[<-mq,hes',ai]
 have hi':i<xs'.length:=by omega
 have hk:i<kvs.length:=by rw[Paired.length rel'];exact hi'
 have hp:=vC rel' (i:=i) (a:=kvs[i]) (b:=xs'[i]) (by simp[hk]) (by simp[hi']);have he:es[i]=entryOfKey (ei P w) xs'[i]:=by
  have:es.toList[i]?=some es[i]:=by simp[hi]
  rw[hes',de,cN hi']at this;injection this with this;exact this.symm
 refine⟨.ref xs'[i].2.1,kvs[i].2,⟨kvs[i].1,by simp[hk],hp.2.1⟩,?_,?_⟩
 ·rw[he];exact rfl
 ·rw[he];exact hp.2.2.2
end L2
end

section
set_option Elab.async false
set_option linter.all false
set_option maxRecDepth 100000
namespace L2
open PySem PySem.Spec PyProof.Rows
section
variable{prog:bO}{w:World}{A:Around}{E:Zc}{s:Shared}{d v it:Addr}{es:Array kE}{ep i:Nat}
theorem Dg{Q:Zc}(hd:(d==ia)=false)(h:FZ s.heap d es ep)
  (q:∀h',h'.IsKeyIter s.heap.objs.size d 0 es.size ep->(∀b o,s.heap.get? b=some o->h'.get? b=some o)->Q (.ref s.heap.objs.size) { s with heap:=h' }):wpAny (model prog w) A (pyIter (.ref d)) Q E s:=by
 obtain⟨o,ho,hx,hdat⟩:=h.ex;refine wpAny_pyIter_slot h.ty F.slot_dict_iter <| wa F.slot_dict_iter h.ty F.entry_dict_iter ?_ (F.args_dict_iter_1 _);unfold cE.«dict.__iter__»;refine ao ?_;unfold cE.Dict.dictSlotNone;refine ao <| wpAny_notOrdered_dict h.ty <| ?_;refine aT (show wpAny _ _ (cE.Dict.showsAll d >>= _) _ _ s from ?_);unfold cE.Dict.showsAll;rw[if_neg (fun z=>by rw[hd]at z;cases z)];refine ao <| aT <| ao <| ww ho hdat <| ao <| wpAny_dictEpoch ho hdat ?_;refine ao (pB (aT ⟨_,rfl,"dict_keyiterator",_,⟨_,da _ rfl,rfl⟩,sJ.lookup,?_⟩));exact q _ ⟨_,da _ rfl,rfl,by simp[rawInt]⟩ fun b o e=>bq _ e
theorem Df{Q:Option Value->Shared->Prop}(hit:s.heap.IsKeyIter it d i es.size ep)(h:FZ s.heap d es ep)(hi:i<es.size)
  (q:∀h',h'.IsKeyIter it d (i+1) es.size ep->i3 it s.heap h'->Q (some es[i].key) { s with heap:=h' }):wpAny (model prog w) A (pyNext (.ref it)) Q E s:=by
 obtain⟨ov,hov,hcv,hdv⟩:=id hit;obtain⟨o,ho,hx,hdat⟩:=h.ex;have hT:=hit.typeIs;unfold pyNext;refine ao <| wB <| pr (name:=pq "__next__") hT sJ <| wa sJ hT F.entry_dict_keyiterator_next ?_ (F.args_dict_keyiterator_next_1 _);refine ao <| aT <| ao <| ao ?_
 first|refine ao <| wv hT <| aT ?_|refine ao <| wu hT <| aT ?_
 refine ao <| wpAny_fieldsOf hov hdv ?_;simp only[show cE.Dict_items.ownsTuple "dict_keyiterator"=false by decide,sM,if_false];show wpAny _ _ (if(Value.ref d==Value.none)=true then _ else _) _ _ _
 rw[if_neg (show ¬((Value.ref d==Value.none)=true)from gX)];refine ao <| aT <| ao <| ww ho hdat ?_;rw[if_neg (by simp)];refine ao <| aT <| ao <| wpAny_dictEpoch ho hdat ?_;rw[if_neg (by simp)];refine aT ?_;simp only[show ¬((i:Int)<0)from by omega,if_false,kG,Array.getElem?_eq_getElem hi];refine ao ?_
 first|refine ao <| wv hT <| aT ?_|refine ao <| wu hT <| aT ?_
 refine ao <| wpAny_isOneOf_keyiter hT ?_;show wpAny _ _ (setField (.ref it) 1 (rawInt ((i:Int)+1)) >>= _) _ _ s;refine ao <| wG hov hdv (by simp) ?_;have n1:(s.heap.update it (Obj.mapFields (·.setIfInBounds 1 (rawInt ((i:Int)+1))))).IsKeyIter it d (i+1) es.size ep:=⟨_,wO _ hov (Obj.isFreed_of_fields (wF hdv _)),(Obj.cls_mapFields ..).trans hcv,by rw[wF hdv];simp[rawInt]⟩;have T1:=Heap.IsKeyIter.typeIs (s:={ s with heap:=s.heap.update it (Obj.mapFields (·.setIfInBounds 1 (rawInt ((i:Int)+1)))) }) n1;refine ao <| qN <| ao <| wpAny_isOneOf_keyiter T1 ?_;show wpAny _ _ (pure es[i].key) _ _ _;exact aT <| aT ⟨_,rfl,aT <| q _ n1 (mJ ..)⟩
theorem EK{Q:Option Value->Shared->Prop}(hh:A.handled=none)(hit:s.heap.IsKeyIter it d i es.size ep)(h:FZ s.heap d es ep)(hi:es.size<=i)
  (q:∀h',Heap.ExtBut it s.heap h'->Q none { s with heap:=h' }):wpAny (model prog w) A (pyNext (.ref it)) Q E s:=by
 obtain⟨ov,hov,hcv,hdv⟩:=id hit;obtain⟨o,ho,hx,hdat⟩:=h.ex;have hT:=hit.typeIs;unfold pyNext;refine ao <| wB <| pr (name:=pq "__next__") hT sJ <| wa sJ hT F.entry_dict_keyiterator_next ?_ (F.args_dict_keyiterator_next_1 _);refine ao <| aT <| ao <| ao ?_
 first|refine ao <| wv hT <| aT ?_|refine ao <| wu hT <| aT ?_
 refine ao <| wpAny_fieldsOf hov hdv ?_;simp only[show cE.Dict_items.ownsTuple "dict_keyiterator"=false by decide,sM,if_false];show wpAny _ _ (if(Value.ref d==Value.none)=true then _ else _) _ _ _
 rw[if_neg (show ¬((Value.ref d==Value.none)=true)from gX)];refine ao <| aT <| ao <| ww ho hdat ?_;rw[if_neg (by simp)];refine ao <| aT <| ao <| wpAny_dictEpoch ho hdat ?_;rw[if_neg (by simp)];refine aT ?_;simp only[show ¬((i:Int)<0)from by omega,if_false,kG,Array.getElem?_eq_none hi];refine ao ?_
 first|refine ao <| wv hT <| aT ?_|refine ao <| wu hT <| aT ?_
 show wpAny _ _ (setField (.ref it) 0 .none >>= _) _ _ s;refine ao <| wG hov hdv (by simp) ?_;show wpAny _ _ (newExc (.type "StopIteration") [] >>= _) _ _ _;refine ao ?_;simp only[newExc,newTuple];refine ao <| pB ?_ (by size_fits);refine ao (m:=wE _ _) <| wpAny_of_eq (a:=Value.none) (by first|rfl|(simp only[wE];rfl)) <| pB ?_ (by size_fits)
 simp only[raiseNew];refine ao <| wpAny_handled ?_;rw[show A.in1.handled=none from hh];refine ao <| aT <| wpAny_throw ?_;refine ao (BE (b:=true) (T:="StopIteration") ⟨_,da _ rfl,rfl⟩ isSubtype_stop (aT (q _ (((mJ ..).extBut.push _).push _))))
end
def IZ(d:Addr)(o:Obj)(u:HO)(n:Nat)(ent:Nat->Hp->V->V->Prop):It :=
 ⟨fun i H=>H d=some (.frz o u)/\i<n,fun i H x H'=>H'=H/\∃b,ent i H x b,fun i H=>H d=some (.frz o u)/\n<=i⟩
theorem CJ{P:bO}{w:World}{K:Za}{tg:Expr}{d it:Addr}{o:Obj}{u:HO}{n:Nat}{ent:Nat->Hp->V->V->Prop}{es:Array kE}{ep:Nat}(X0:IT P w K d o u n ent es ep):
  rO P w K tg (IZ d o u n ent) [it] it (fun i h=>h.IsKeyIter it d i n ep) where
 mem:=by simp
 obj:=fun i h st b hb=>by
  have e:b=it:=by simpa using hb
  subst e;obtain⟨o,e,c,d⟩:=st;exact⟨o,e,fun v z=>by rw[d]at z;cases z⟩
 keep:=fun i h h' st k=>st.at fun o e=>k it (by simp) o e
 item:=by
  intro X hP hw hK hc i J5 s σ H E I hf st hg;subst hP hw hK;obtain⟨hd,hi⟩:=hg;have hi':i<es.size:=by rw[X0.sz];exact hi
  obtain⟨g,ou⟩:=(show cB X.prog X.w X.K H s.heap d (.frz o u)from I.hok d _ hd);obtain⟨a,b,en,ra,rb⟩:=X0.get hi' I.hok hd;obtain⟨f0,f1,f2,f3,f4,f5⟩:=hf it (by simp);rw[<-X0.sz]at st;refine Df st ⟨o,g,X0.ex,X0.dat⟩ hi' fun h' st' sb=>?_;have I1:Inv X J5 σ H { s with heap:=h' }:=I.turned (t':=s.toks) (fun b o hb e=>(sb.2 b hb).trans e) f0 f1 f3 f4 f5;obtain⟨oi,e,c,dd⟩:=id st';exact⟨_,rfl,uk (s:={ s with heap:=h' }) e c dd (by decide) ⟨a,H,I1,ra,⟨rfl,b,en⟩,by rw[<-X0.sz];exact st',fun b hb=>(hf b hb).1⟩⟩
 done:=by
  intro X hP hw hK hc i J5 s σ H E I hf st hg;subst hP hw hK;obtain⟨hd,hi⟩:=hg;obtain⟨g,ou⟩:=(show cB X.prog X.w X.K H s.heap d (.frz o u)from I.hok d _ hd);obtain⟨f0,f1,f2,f3,f4,f5⟩:=hf it (by simp);rw[<-X0.sz]at st;exact EK (I.ok.hd hc) st ⟨o,g,X0.ex,X0.dat⟩ (by rw[X0.sz];exact hi) fun h' eb=>⟨rfl,I.turned (t':=s.toks) (fun b o hb e=>eb b o hb e) f0 f1 f3 f4 f5⟩
 self:=fun _ _ _ _ _ st h=>wpAny_pyIter_keyiter st h
def Fz(K:Za)(tl:TE):TI:=fun σ H R=>tl σ H fun x H1=>∃d kvs,x=.ref d /\
 ((H1 d=some (.dT kvs)/\∀o,R (IZ d o (.dT kvs) kvs.length (Hj K kvs)) (upd H1 d (.frz o (.dT kvs))))∨∃o,H1 d=some (.frz o (.dT kvs))/\R (IZ d o (.dT kvs) kvs.length (Hj K kvs)) H1)
section
variable{X:Cx}{J5:Zd}{σ:St}{l tg:Expr}{tl:TE}
theorem vJ{R:It->Hp->Prop}{H2:Hp}{s1:Shared}{d:Addr}{o:Obj}{u:HO}{n:Nat}{ent:Nat->Hp->V->V->Prop}{es:Array kE}{ep:Nat}(X0:IT X.prog X.w X.K d o u n ent es ep)(hsys:(d==ia)=false)(I2:Inv X J5 σ H2 s1)(e:H2 d=some (.frz o u))(q:R (IZ d o u n ent) H2):
  wpAny (model X.prog X.w) X.A (pyIter (.ref d)) (PIE X J5 σ tg R) X.xe s1:=by
 obtain⟨g,_⟩:=(show cB X.prog X.w X.K H2 s1.heap d (.frz o u)from I2.hok d _ e);refine Dg hsys ⟨o,g,X0.ex,X0.dat⟩ fun h' hit hk=>?_;have I3:Inv X J5 σ H2 { s1 with heap:=h',toks:=s1.toks }:=I2.kept (t':=s1.toks) hk;refine⟨_,[_],_,_,H2,rfl,I3,CJ X0,by rw[<-X0.sz];exact hit,fun b hb=>?_,q⟩;have e:b=s1.heap.objs.size:=by simpa using hb
 subst e;exact I2.fpOk (ax _) (I2.hok.fresh (ax _))
theorem EY(hl:PE X l tl):PI X tg l (Fz X.K tl):=by
 intro J5 s σ H R I h;refine cz (hl J5 s σ H _ I h) fun v s1 ⟨x,H1,I1,r1,d,kvs,ex,q⟩=>?_;subst ex;cases r1;rcases q with⟨e,q⟩|⟨o,e,q⟩
 ·obtain⟨z,hsys,xs',rel,o,es,ep,ho,r⟩:=id (show cB X.prog X.w X.K H1 s1.heap d (.dT kvs)from I1.hok d _ e);have I2:Inv X J5 σ (upd H1 d (.frz o (.dT kvs))) { s1 with heap:=s1.heap,toks:=s1.toks } :=
   I1.write (x:=d) (e:=d) (t':=s1.toks) (by rw[e];trivial) (.inl rfl) (fun _ _ _ q=>q) ⟨o,ho⟩ ⟨ho,z,hsys,xs',Paired.mapP rel (fun p q r=>⟨r.1,q_.keeps (fun b ys eb=>by rw[ah (fun z=>by rw[z,e]at eb;cases eb)];exact eb) 8 r.2.2.1 r.2.1,r.2.2⟩),o,es,ep,ho,r⟩
  obtain⟨hsys',es',ep',X0⟩:=vP I2.hok (aa (H:=H1) (a:=d));exact vJ X0 hsys' I2 aa (q o)
 ·obtain⟨hsys',es',ep',X0⟩:=vP I1.hok e;exact vJ X0 hsys' I1 e q
end
end L2
end

section
set_option Elab.async false
set_option linter.all false
set_option maxRecDepth 100000
namespace HT
open PySem PySem.Spec PyProof.Rows
end HT
namespace L2
open PySem PySem.Spec PyProof.Rows
end L2
namespace HT
open PySem PySem.Spec PyProof.Rows
end HT
namespace L2
open PySem PySem.Spec PyProof.Rows
end L2
end

section
set_option Elab.async false
set_option linter.all false
set_option maxRecDepth 100000
namespace HT
open PySem PyProof.Rows
end HT
namespace L2
open PySem PySem.Spec PyProof.Rows
inductive NE2{T0 T1:Type}(P:T0->T1->Prop):Prop
 |mk (x0:T0) (x1:T1):P x0 x1->NE2 P
inductive JM{T0 T1 T2:Type}(P:T0->T1->T2->Prop):Prop
 |mk (x0:T0) (x1:T1) (x2:T2):P x0 x1 x2->JM P
inductive JN(p0 p1 p2 p3 p4:Prop):Prop
 |mk:p0->p1->p2->p3->p4->JN p0 p1 p2 p3 p4
inductive NA6(p0 p1 p2 p3 p4 p5:Prop):Prop
 |mk:p0->p1->p2->p3->p4->p5->NA6 p0 p1 p2 p3 p4 p5
end L2
end

section
set_option Elab.async false
set_option linter.all false
set_option maxRecDepth 100000
namespace L2
open PySem PySem.Spec PyProof.Rows
abbrev HL(K:Za):List V->Hp->VK->Prop:=fun xs H Q=>∃(p:Addr) (ns:List Int),xs=[.ref p]/\az K H p (ns.map V.int)/\Q (.int ns.sum) H
abbrev zf:R2:=rI IntMulOk fun i j=>.int (i * j)
section
variable{X:Cx}
theorem DN(hc:X.calm=true):fW X (.builtin "sum") (HL X.K):=by
 intro J5 s σ H xs us Q I r h;obtain⟨p,ns,rfl,hq,q⟩:=h;obtain⟨u,rfl,ru⟩:=vals1 r;cases ru;obtain⟨its,rv,pl,hz⟩:=I.list hq;obtain⟨zs,rfl,ens⟩:=BI rv;have isl:s.heap.IsList p (intItems zs.toArray):=by
  have:=pl.isList;have e:intItems zs.toArray=(zs.map fun p=>Value.int p.1 p.2).toArray:=by simp[intItems]
  rw[e];exact this
 refine sum_intListG (I.ok.hd hc) isl fun h' tk t' hk=>?_;rw[preSum_eq,sI (by simp)];exact⟨.int ns.sum,H,I.kept hk,⟨t',by rw[<-ens]⟩,q⟩
theorem sk:lg X (jj .Mult) zf:=Jl fun _ _ _ _ _ _ _ hc q=>mul_int q hc
end
def Ib(_ j:Int):Prop:=0<j/\j.natAbs.log2<9000
abbrev BP:List V->Hp->VK->Prop:=fun xs H Q=>∃i j,xs=[.int i,.int j]/\Ib i j/\∀p,H p=none->Q (.ref p) (upd H p (.tup [.int (i / j),.int (i % j)]))
def Ga(K:Za)(a:Addr)(n:Nat):It :=
 ⟨fun i H=>i<n/\∃xs,az K H a xs/\xs.length=n,fun i H x H'=>H'=H/\∀xs,az K H a xs->xs[n-1-i]?=some x,fun i _=>n<=i⟩
def IG(K:Za)(ta:TA):TI:=fun σ H R=>ta σ H fun vs H1=>∃a xs,vs=[.ref a]/\az K H1 a xs/\R (Ga K a xs.length) H1
theorem Ch{K:Za}{a:Addr}{xs:List V}{g:TG}{tb:TS}{D:rY}{σ:St}{H:Hp}(Pv:Nat->St->Hp->Prop)(h0:Pv 0 σ H)(hl:∀i σ H,i<=xs.length->Pv i σ H->az K H a xs)
  (hs:∀i x σ H,xs[xs.length-1-i]?=some x->i<xs.length->Pv i σ H->g x σ H fun σ2 H2=>tb { D with nx:=Pv (i+1),ct:=Pv (i+1),bk:=D.nx } σ2 H2) (hd:∀σ H,Pv xs.length σ H->D.nx σ H) :
  ∃W:Nat->Nat->St->Hp->Prop,(∃m,W 0 m σ H)/\∀i m σ H,W i m σ H ->
   ((Ga K a xs.length).stop i H/\D.nx σ H)∨((Ga K a xs.length).go i H/\∃N:St->Hp->Prop,(∀σ' H',N σ' H'->∃m',m'<m/\W (i+1) m' σ' H')/\∀x H',(Ga K a xs.length).yld i H x H'->g x σ H' fun σ2 H2=>tb { D with nx:=N,ct:=N,bk:=D.nx } σ2 H2):=by
 refine⟨fun i m σ H=>m=xs.length-i/\i<=xs.length/\Pv i σ H,⟨xs.length,by simp,cG _,h0⟩,?_⟩;rintro i m σ H ⟨rfl,hi,p⟩;have q:=hl i σ H hi p;by_cases lt:i<xs.length
 ·refine .inr ⟨⟨lt,xs,q,rfl⟩,Pv (i+1),fun σ' H' p'=>⟨xs.length-(i+1),by omega,rfl,lt,p'⟩,fun x H' y=>?_⟩;obtain⟨rfl,y⟩:=y;exact hs i x σ _ (y xs q) lt p
 ·have e:i=xs.length:=by omega
  subst e;exact .inl ⟨ax _,hd σ H p⟩
theorem uA:mr "reversed"=some (.type "reversed"):=by decide +kernel
section
variable{X:Cx}
theorem xZ:fW X (.builtin "divmod") BP:=by
 intro J5 s σ H xs us Q I r h;obtain⟨i,j,rfl,hc,q⟩:=h;obtain⟨u,v,rfl,ru,rv⟩:=vals2 r;obtain⟨t,rfl⟩:=ru;obtain⟨t',rfl⟩:=rv;have h1:0<j:=hc.1;refine divmod_int (by omega) ?_ (.inl (PyProof.noPylong_of_log2 hc.2));rw[Int.fdiv_eq_ediv_of_nonneg i (by omega),Int.fmod_eq_emod_of_nonneg i (by omega)];exact⟨.ref s.heap.objs.size,_,I.laid (t':=s.toks+1+1) (fun b o e=>bq _ e) (ax _) (show cB X.prog X.w X.K _ _ _ (.tup [.int (i / j),.int (i % j)])from⟨by show 2<=aj;decide,_,.cons ⟨_,rfl⟩ (.cons ⟨_,rfl⟩ .nil),IsTup.new _ _⟩),rfl,q _ (I.hok.fresh (ax _))⟩
theorem Eo{P:bO}{w:World}{K:Za}{tg:Expr}(a it:Addr)(n:Nat):rO P w K tg (Ga K a n) [it] it (fun i h=>i<=n/\h.IsRevIter it a ((n:Int)-1-(i:Int))) where
 mem:=by simp
 obj:=fun i h st b hb=>by
  have e:b=it:=by simpa using hb
  subst e;obtain⟨_,o,e,c,d⟩:=st;exact⟨o,e,fun v z=>by rw[d]at z;cases z⟩
 keep:=fun i h h' st k=>⟨st.1,st.2.at fun o e=>k it (by simp) o e⟩
 item:=by
  intro X hP hw hK hc i J5 s σ H E I hf st hg;subst hP hw hK;obtain⟨hi,xs,hq,hx⟩:=hg;obtain⟨its,rv,p,hz⟩:=I.list hq;have hl:=rv.length;obtain⟨x,ex⟩:∃x,xs[n-1-i]?=some x:=⟨_,cN (by omega)⟩;obtain⟨u,hu,ru⟩:=rv.get ex;obtain⟨f0,f1,f2,f3,f4,f5⟩:=hf it (by simp);have e1:(n:Int)-1-(i:Int)=((n-1-i:Nat):Int):=by omega
  have st2:=st.2;rw[e1]at st2;refine wpAny_pyNext_rev_item st2 p.isList (x:=u) (by simpa using hu) fun h' st' sb=>?_;have I1:Inv X J5 σ H { s with heap:=h' }:=I.turned (t':=s.toks) (fun b o hb e=>(sb.2 b hb).trans e) f0 f1 f3 f4 f5;have e2:((n-1-i:Nat):Int)-1=(n:Int)-1-((i+1:Nat):Int):=by omega
  rw[e2]at st';obtain⟨o,e,c,d⟩:=id st';exact⟨u,rfl,uk (s:={ s with heap:=h' }) e c d (by decide) ⟨x,H,I1,ru,⟨rfl,fun ys hy=>by rw[I.list_inj hy hq];exact ex⟩,⟨hi,st'⟩,fun b hb=>(hf b hb).1⟩⟩
 done:=by
  intro X hP hw hK hc i J5 s σ H E I hf st hg;subst hP hw hK;obtain⟨f0,f1,f2,f3,f4,f5⟩:=hf it (by simp);have hg:n<=i:=hg;have e1:(n:Int)-1-(i:Int)=-1:=by have:=st.1;omega
  have st2:=st.2;rw[e1]at st2;exact wpAny_pyNext_rev_end (I.ok.hd hc) st2 fun h' eb=>⟨rfl,I.turned (t':=s.toks) (fun b o hb e=>eb b o hb e) f0 f1 f3 f4 f5⟩
 self:=fun _ _ _ _ _ st h=>wpAny_pyIter_revIter st.2 h
variable{tg l:Expr}{ta:TA}{p pos:Pos}
theorem EX(hg:Gl X "reversed")(hm:X.mg "reversed"=none)(ha:PA X [l] ta)(hs:aF [l] X.env=[(false,eval l X.env)]:=by rfl):PI X tg (.Call (.Name "reversed" p) [l] [] pos) (IG X.K ta):=by
 intro J5 s σ H R I h;refine Call_ (qd I hg hm uA (yC (cz (ha pos J5 s σ H _ I h) fun us s1 ⟨vs,H1,I1,r1,q1⟩=>?_) (by rw[hs];rfl) (by rfl)));obtain⟨a,xs,e,hq,q⟩:=q1;subst e;obtain⟨u,rfl,ru⟩:=vals1 r1;cases ru;obtain⟨its,rv,pl,hz⟩:=I1.list hq;have hl:=rv.length;refine call_reversed_list pl.isList ?_;have e:((its.toArray.size:Nat):Int)-1=(xs.length:Int)-1-((0:Nat):Int):=by rw[bN,hl];omega
 rw[e];have hit:(s1.heap.push (revObj a ((xs.length:Int)-1-((0:Nat):Int)))).IsRevIter s1.heap.objs.size a ((xs.length:Int)-1-((0:Nat):Int)):=⟨_,da _ rfl,rfl,rfl⟩;refine wpAny_pyIter_revIter (s:={ s1 with heap:=s1.heap.push (revObj a ((xs.length:Int)-1-((0:Nat):Int))) }) hit ?_;have fin:∀b∈[s1.heap.objs.size],mm X J5 H1 b:=fun b hb=>by
  have e:b=s1.heap.objs.size:=by simpa using hb
  subst e;exact I1.fpOk (ax _) (I1.hok.fresh (ax _))
 exact⟨s1.heap.objs.size,[s1.heap.objs.size],_,_,H1,rfl,I1.kept (t':=s1.toks) fun b o e=>bq _ e,Eo a _ _,⟨cG _,hit⟩,fin,q⟩
end
section
variable{X:Cx}{J5:Zd}{σ:St}{H:Hp}{s:Shared}{h':Heap}
theorem Inv.many{H':Hp}{N:Ze}{t':Nat}(I:Inv X J5 σ H s)(k:∀b u,s.heap.get? b=some u->h'.get? b=some u)(hN:∀a∈N,s.heap.objs.size<=a)(out:∀b,b∉N->H' b=H b)(new:∀a∈N,∀o,H' a=some o->cB X.prog X.w X.K H' h' a o):
  Inv X J5 σ H' { s with heap:=h',toks:=t' }:=by
 have old:∀b o,H b=some o->b∉N:=fun b o e q=>mv _ (gL (I.hok.lt e) (hN b q));have same:∀b o,H b=some o->H' b=some o:=fun b o e=>by rw[out b (old b o e)];exact e
 refine I.un ⟨fun b u q _ _ _=>k b u q,fun b u q _ _ _=>⟨u.slots,k b u q⟩,fun b u q n _=>?_,fun b u q _=>⟨u,k b u q⟩,fun b xs q=>same b _ q,fun b o u q=>same b _ q,fun b ps q=>⟨#[],by rw[same b _ q];simp⟩⟩ fun b o e=>?_
 ·rw[out b fun z=>mv _ (gL (aU q) (hN b z))];exact n
 ·by_cases hb:b∈N
  ·exact new b hb o e
  ·rw[out b hb]at e;exact(I.hok b o e).stay (fun c v _ q=>k c v q) (fun c q=>same c _ q) fun c xs q=>same c _ q
variable{p p2 pos pos2:Pos}
end
end L2
namespace L2
open PySem PySem.Spec PyProof.Rows
abbrev EM(K:Za):List V->Hp->VK->Prop:=fun xs H Q=>∃(a:Addr) (ns:List Int),xs=[.ref a]/\az K H a (ns.map V.int)/\ns.length<64 /\
 ∀(p:Addr) (ns':List Int),H p=none->ns'.Perm ns->ns'.Pairwise (·<=·)->Q (.ref p) (upd H p (.lst (ns'.map V.int)))
section
variable{X:Cx}
theorem zK:∀{ns:List Int}{us:Zf},aR (ns.map V.int) us->mK us ns
 |[],_,.nil=>.nil
 |n::ns,_,.cons r t=>by
  obtain⟨k,rfl⟩:=r;exact .cons n k (zK t)
theorem vL:∀{ns:List Int}{us:Zf},mK us ns->aR (ns.map V.int) us
 |_,_,.nil=>.nil
 |_,_,.cons n t r=>.cons ⟨t,rfl⟩ (vL r)
theorem Be:fW X (.builtin "sorted") (EM X.K):=by
 intro J5 s σ H xs us Q I r h;obtain⟨a,ns,rfl,hq,hz,q⟩:=h;obtain⟨u,rfl,ru⟩:=vals1 r;cases ru;obtain⟨its,rv,pl,_⟩:=I.list hq;have il:=rv.length;rw[ai]at il;refine sorted_ints pl.isList (zK rv) (by omega) fun out ns' hi pm pw=>?_;obtain⟨e,he⟩:=sortedAll_at s.heap its out;have hv:=vL hi;have D:s.heap.objs.size<=s.heap.objs.size+1:=sO _ _;refine⟨.ref (s.heap.objs.size+1),upd H (s.heap.objs.size+1) (.lst (ns'.map V.int)),I.many (N:=[s.heap.objs.size+1]) (t':=s.toks) (fun b o e=>sortedAll_old e) (fun b hb=>?_) (fun b hb=>?_) fun b hb o ho=>?_,rfl,q _ ns' (I.hok.fresh D) pm pw⟩
 ·rw[cC.1 hb];exact D
 ·rw[ah fun z=>hb (by rw[z];exact cC.2 rfl)]
 ·rw[cC.1 hb]at ho ⊢;rw[aa]at ho;cases ho;refine⟨?_,out.toList,e,hv,by simpa using he⟩;have:=pm.length_eq;rw[ai];have:64<=aj:=by decide
  omega
end
def ER(K:Za):R2:=fun x y H Q=>∃a b xs ys,x=.ref a/\y=.ref b/\bE K H a xs/\bE K H b ys/\ys≠[]/\xs.length+ys.length<=aj /\
 (xs=[]->Q (.ref b) H)/\(xs≠[]->∀p,H p=none->Q (.ref p) (upd H p (.tup (xs++ys))))
section
variable{X:Cx}
theorem G7:lg X (jj .Add) (ER X.K):=by
 intro J5 s σ H x y v u Q I rx ry h;obtain⟨a,b,xs,ys,rfl,rfl,ha,hb,hy,hz,q1,q2⟩:=h;by_cases hx:xs=[]
 ·cases rx;cases ry;obtain⟨its,r1,p1,_⟩:=I.tuple ha;obtain⟨its2,r2,p2,_⟩:=I.tuple hb;have e1:its=[]:=r1.nil_iff.mpr hx;subst e1;obtain⟨⟨cls,dd,data,sl⟩,ho,hc,n,hd⟩:=id p1;obtain⟨⟨cls2,dd2,data2,sl2⟩,ho2,hc2,n2,hd2⟩:=id p2;simp only at hc hd hc2 hd2;subst hc hd hc2 hd2;exact concat_meets ⟨_,ho,rfl⟩ ⟨_,ho2,rfl⟩ noFill_tuple_add seq_tuple_add PySem.F.slot_tuple_add PySem.F.entry_tuple_add (PySem.F.args_tuple_add_2 _ _)
   (tuple_addW0 a b _ its2.toArray n n2 dd dd2 sl sl2 (by simp)) ⟨ho,ho2,⟨.ref b,H,I,rfl,q1 hx⟩⟩
 ·exact G6 J5 s σ H _ _ v u Q I rx ry ⟨a,b,xs,ys,rfl,rfl,ha,hb,hx,hz,fun z=>absurd z hy,fun _=>q2 hx⟩
end
end L2
end
section
namespace L2
open PySem PySem.Spec PyProof.Rows
open Sem (wp)
end L2
end
set_option Elab.async false
set_option linter.all false
set_option maxRecDepth 100000
set_option maxHeartbeats 4000000
namespace Mum
open PySem PySem.Spec PyProof.Rows L2
def wX(K:Za):TS :=
 ap (cK (aW (aD Iq V0 (aD HM (tC (.int 10)) (tC (.int 18))))) (aO V0) (bC))
 (ap (aI (aD iG (aD dh (aD dh (aD kR (aD iG V0 (tC (.int 1000000007))) (tC (.int 69069))) (aD kR V1 (tC (.int 40503)))) (tC (.int 977))) (tC (.int 2147483629))) U2)
 (ap (aI (aD iG (aD dh (aD dh (aD kR V2 V2) (aD kR V1 (tC (.int 7919)))) (aD iG V0 (tC (.int 65537)))) (tC (.int 2147483587))) U3)
 (ap (aI (aD iG (aD dh (aD dh (aD kR V3 V3) (aD kR V2 (tC (.int 31)))) (tC (.int 5))) (tC (.int 2147483563))) U4)
 (aO (aD dh (aD kR (aD dh (aD kR V2 (tC (.int 2147483659))) V3) (tC (.int 2147483693))) V4)))))
def yk:List Str:=["cell","at","one","two","three"]
def An(K:Za):TS :=
 ap (aI (gP (eo K) (aA (Ap (rK K) V0 (eG) (gM (tC (.int 12)))))) U1)
 (ap (eS (ui K (aA (Ap (rK K) V0 (gM (tC (.int 12))) (gM (tC (.int 63)))))) (iX K 2 (bm U2 (bm U3 (iO)))) (aI (aD dh (aD (d7 K) V1 (aD iG V2 (tC (.int 12)))) V3) (A7 V1 (aD iG V2 (tC (.int 12))) tM)))
 (aO (dg (du V1 (tC (.int 0)) (tC (.int 0))))))
def Bn:List Str:=["script","cells","k","cell"]
def Ao(K:Za):TS :=
 ap (aI (tC (.int 0)) (A7 V0 (tC (.int 2)) tM))
 (aO V0)
def Bo:List Str:=["pen"]
def Am(K:Za)(sp_law_spread:Sp):TS :=
 ap (cK (aW (aD EN (aD (d7 K) V0 (tC (.int 2))) V1)) (ap (aI (aD (d7 K) V0 (tC (.int 1))) U2)
 (ap (aI (tC (.int 0)) U3)
 (ap (cK (aW (aD EN V2 (gP (iH K) (aA (aD (d7 K) V0 (tC (.int 0))))))) (aI (aD (d7 K) (aD (d7 K) V0 (tC (.int 0))) V2) U3) (cK (aW (aD u8 (gP (iH K) (aA (aD (d7 K) V0 (tC (.int 0))))) (tC (.int 0)))) (aI (aD iG (aD (d7 K) (aD (d7 K) V0 (tC (.int 0))) (aD iG (aD dh (aD kR V2 (tC (.int 5))) (tC (.int 3))) (gP (iH K) (aA (aD (d7 K) V0 (tC (.int 0))))))) (aD dh (aD HM (tC (.int 10)) (tC (.int 17))) V2)) U3) (bC)))
 (ap (aI (aD dh V2 (tC (.int 1))) (A7 V0 (tC (.int 1)) tM))
 (aI (aN sp_law_spread (aZ V3 V2)) (A7 V0 (tC (.int 2)) tM)))))) (bC))
 (ap (aI (aD iG (aD (d7 K) V0 (tC (.int 2))) V1) U4)
 (ap (aI (aD EQ (aD (d7 K) V0 (tC (.int 2))) V1) (A7 V0 (tC (.int 2)) tM))
 (aO V4)))
def Bm:List Str:=["pen","many","at","cell","found"]
def yN(K:Za)(sp_law_take:Sp):TS :=
 ap (aI (tC (.str "abcdefghijklmnopqrstuvwxyz")) U2)
 (ap (aI (Ad K "str" (HN K) (tC (.str "")) (aw (cA 1 [2,0] (uh (aA (tC (.int 7)))) U0 (ic) (aD EO V1 (aN sp_law_take (aZ V2 (tC (.int 26)))))) bL)) U3)
 (ap (aI (aN sp_law_take (aZ V0 (tC (.int 3)))) U4)
 (ap (aI (aN sp_law_take (aZ V0 (tC (.int 26)))) U5)
 (ap (aI (aN sp_law_take (aZ V0 (tC (.int 8)))) U6)
 (ap (aI (dg (bL)) U7)
 (ap (eS (uh (aA V1)) U8 (ap (aI (aD EO V2 (aD iG (aD dh V5 (aD kR (tC (.int 3)) V8)) (tC (.int 26)))) U9)
 (ap (aI (Ap GR V3 (eG) (gM (aD iG (aD dh V6 (aD kR V8 (aD iG V4 (tC (.int 2))))) (tC (.int 8))))) U10)
 (ap (aI (aD (d7 K) (dg (du (tC (.int 0)) (gP (iH K) (aA IN)) (aD EQ (gP (iH K) (aA IN)) (tC (.int 2))))) V4) U11)
 (cT (Ad K "list" eI V7 (aA (aD HP (aD HP (Ap GR IN (eG) (gM FX)) V9) (Ap GR IN (gM FX) (eG))))))))))
 (aO V7)))))))
def z8:List Str:=["pen","many","letters","base","way","turn","size","found","k","sign","part","at"]
def CO(K:Za):TS :=
 cK (aW (aD (tN K true) V1 V0)) (cT (Ad K "list" eI V0 (aA V1))) (bC)
def DW:List Str:=["doors","door"]
def pO(K:Za)(sp_law_take:Sp)(sp_law_put:Sp):TS :=
 ap (aI (dg (bL)) U5)
 (ap (aI (aN sp_law_take (aZ V0 (tC (.int 2)))) U6)
 (ap (eS (ui K (aA V3)) (iX K 2 (bm U7 (bm U8 (iO)))) (ap (eS (uh (aw (aD (d7 K) (dg (aw (tC (.int 0)) (du (tC (.int 1)) (tC (.int 1)) (tC (.int 2))))) (aN sp_law_take (aZ V0 (tC (.int 4))))) bL)) U9 (ap (aI (bR (aw (tC (.str "say")) (aw (aD (d7 K) V2 (aN sp_law_take (aZ V0 (gP (iH K) (aA V2))))) bL))) U10)
 (cT (aN sp_law_put (aw V5 (aw (bR (aw V8 (aw IN (aw (aD (d7 K) V3 (aN sp_law_take (aZ V0 (gP (iH K) (aA V3))))) bL)))) bL))))))
 (ap (eS (b0 K V1) U11 (eS (uh (aw (aD (d7 K) (dg (aw V4 (du (tC (.int 1)) (tC (.int 1)) (tC (.int 2))))) (aN sp_law_take (aZ V0 (tC (.int 4))))) bL)) U9 (cT (aN sp_law_put (aw V5 (aw (bR (aw V8 (aw (bR (aZ (tC (.str "ask")) FX)) (aw (aD (d7 K) V3 (aN sp_law_take (aZ V0 (gP (iH K) (aA V3))))) bL)))) bL))))))
 (ap (aI (aD (d7 K) (dg (aw (Ap (rK K) V3 (gM (aD dh V7 (tC (.int 1)))) (eG)) (aA (Ap (rK K) V3 (eG) (gM V7))))) V6) U12)
 (cK (yX (aW (aD (Ip K) V12 (dg (bL)))) (aW (aD xz (aN sp_law_take (aZ V0 (tC (.int 3)))) (tC (.int 0))))) (cT (aN sp_law_put (aw V5 (aw (bR (aw V8 (aw (bR (aA (tC (.str "still")))) (aw (aD (rL K) V12 (aN sp_law_take (aZ V0 (gP (iH K) (aA V12))))) bL)))) bL)))) (bC))))))
 (aO V5)))
def qx:List Str:=["pen","asks","says","rooms","full","doors","down","k","room","turn","sign","ask","later"]
def yO(K:Za)(sp_law_draw_doors:Sp)(sp_law_names:Sp)(sp_law_take:Sp)(sp_law_anew:Sp):TS :=
 ap (cT (aN sp_law_anew (aA V0)))
 (ap (aI (aN sp_law_names (aZ V0 (tC (.int 8)))) U3)
 (ap (aI (Ap (rK K) V3 (eG) (gM (aD dh (tC (.int 1)) (aD (d7 K) (dg (aw (tC (.int 0)) (aw (tC (.int 1)) (aw (tC (.int 1)) (du (tC (.int 2)) (tC (.int 2)) (tC (.int 3))))))) (aN sp_law_take (aZ V0 (tC (.int 6)))))))) U4)
 (ap (aI (Ap (rK K) V3 (gM (tC (.int 4))) (gM (aD dh (tC (.int 5)) (aD (d7 K) (dg (aw (tC (.int 0)) (aw (tC (.int 1)) (aw (tC (.int 1)) (du (tC (.int 2)) (tC (.int 2)) (tC (.int 3))))))) (aN sp_law_take (aZ V0 (tC (.int 6)))))))) U5)
 (ap (aI (aN sp_law_names (aZ V0 (aD dh (tC (.int 1)) (aN sp_law_take (aw V0 (aA V1)))))) U6)
 (ap (aI (aN sp_law_draw_doors (aw V0 (aw V4 (du V5 V6 V2)))) U7)
 (aO (bR (aw V4 (du V5 V6 V7)))))))))
def z9:List Str:=["pen","most","full","words","asks","says","rooms","doors"]
def uM(K:Za)(C_Machine:Addr)(sp_Machine_init:Sp):TS :=
 aO (vv C_Machine sp_Machine_init [] E0 (aw (gP (eo K) (aA (aD (rL K) V0 (tC (.int 0))))) (aw (gP (eo K) (aA (aD (rL K) V0 (tC (.int 1))))) (aw (gP (eo K) (aA (aD (rL K) V0 (tC (.int 2))))) (aw (gP (eo K) (aA (aD (rL K) V0 (tC (.int 3))))) bL)))))
def vc:List Str:=["told"]
def CT(K:Za):TS :=
 aO (vw (aD IV V0 (tC (.str ""))) (vw (aD rLeI (gP (iH K) (aA V0)) (tC (.int 8))) (gP (Jf K) (aA (cA 1 [] (Jp V0) U0 (ic) (aD rInS V0 (tC (.str "abcdefghijklmnopqrstuvwxyz"))))))))
def D0:List Str:=["text"]
def CU(K:Za):TS :=
 ap (aI (tG) U1)
 (ap (eS (b0 K V0) U2 (kf V1 V2 (tC (.bl true))))
 (aO V1))
def D_:List Str:=["things","keys","thing"]
def mP(K:Za)(sp_is_name:Sp)(sp_as_keys:Sp):TS :=
 ap (cK (aW (aD xz (gP (iH K) (aA V0)) (tC (.int 0)))) (aO (tC (.int 0))) (bC))
 (ap (aI (aN sp_as_keys (aA V2)) U3)
 (ap (eS (ui K (aA V0)) (iX K 2 (bm U4 (bm U5 (iO)))) (ap (cK (Ea (aW (aD xz V4 V1)) (Ea (tB (CV K V5 V3)) (Ih (tB (aN sp_is_name (aA V5)))))) (aO V4) (bC))
 (kf V3 V5 (tC (.bl true)))))
 (aO (tC .non))))
def nC:List Str:=["names","most","taken","ahead","number","name"]
def w6(K:Za)(a_STILL:Addr):TS :=
 aO (aD kS (aD kS (cA 1 [] (b0 K V0) U0 (ic) (bR (aZ (tC (.str "ask")) V0))) (cA 1 [] (b0 K V1) U0 (ic) (bR (aZ (tC (.str "say")) V0)))) (dg (aA (tC (.ref a_STILL)))))
def yo:List Str:=["asks","says"]
def mQ(K:Za)(sp_as_keys:Sp):TS :=
 ap (aI (aN sp_as_keys (aA V1)) U3)
 (ap (aI (mZ) U4)
 (ap (eS (ui K (aA V0)) (iX K 2 (bm U5 (bm U6 (iO)))) (ap (cK (Ea (aW (aD xz V5 (tC (.int 2000)))) (tB (CV K V6 V4))) (aO V5) (bC))
 (ap (cK (Ea (tB (ie K (aD (rL K) V6 (tC (.int 0))) V3)) (Ea (aW (aD (tN K true) (aD (rL K) V6 (tC (.int 1))) V2)) (tB (ie K (aD (rL K) V6 (tC (.int 2))) V3)))) (aO V5) (bC))
 (kf V4 V6 (tC (.bl true))))))
 (aO (tC .non))))
def nD:List Str:=["doors","rooms","signs","own_rooms","ahead","number","door"]
def iV(K:Za):TS :=
 ap (aI (mZ) U1)
 (ap (eS (b0 K V0) (iX K 3 (bm U2 (bm U3 (bm U4 (iO))))) (cT (Ad K "list" eI (Ad K "dict" BM V1 (aZ (bR (aw V2 (aA V3))) (dg (bL)))) (aA V4))))
 (aO V1))
def iY:List Str:=["doors","goals","start","sign","goal"]
def tq(K:Za)(a_STILL:Addr):TS :=
 ap (aI (tG) U2)
 (ap (aI (dg (aA V1)) U3)
 (ap (tD (aW (aD u8 (gP (iH K) (aA V3)) (tC (.int 0)))) (ap (aI (Gq K "list" Io V3) U4)
 (eS (Jq K (xk K V0 (bR (aZ V4 (tC (.ref a_STILL)))) (bR (bL)))) U5 (cK (tB (ie K V5 V2)) (ap (kf V2 V5 (tC (.bl true)))
 (cT (Ad K "list" eI V3 (aA V5)))) (bC)))))
 (aO V2)))
def uG:List Str:=["goals","room","led","waiting","here","goal"]
def nY(K:Za):TS :=
 ap (eS (ui K (aA V0)) (iX K 2 (bm U2 (bm U3 (iO)))) (cK (tB (CV K V3 (kL K V1 V3))) (aO V2) (bC)))
 (aO (tC .non))
def pf:List Str:=["rooms","led","number","room"]
def yJ(K:Za):TS :=
 cK (tB (BL V1)) (pS) (bC)
def z0:List Str:=["part","number"]
def wV(K:Za)(sp_need_none:Sp)(sp_first_wrong_door:Sp)(sp_door_signs:Sp)(sp_first_wrong_name:Sp):TS :=
 ap (cT (aN sp_need_none (aZ (tC (.str "asks")) (aN sp_first_wrong_name (du V0 (tC (.int 4)) (dg (bL)))))))
 (ap (cT (aN sp_need_none (aZ (tC (.str "says")) (aN sp_first_wrong_name (du V1 (tC (.int 4)) V0)))))
 (ap (cT (aN sp_need_none (aZ (tC (.str "rooms")) (aN sp_first_wrong_name (du V2 (tC (.int 150)) (dg (bL)))))))
 (cT (aN sp_need_none (aw (tC (.str "doors")) (aA (aN sp_first_wrong_door (du V3 V2 (aN sp_door_signs (aZ V0 V1))))))))))
def yi:List Str:=["asks","says","rooms","doors"]
def pQ(K:Za):TS :=
 ap (aI (tG) U2)
 (ap (eS (b0 K V0) U3 (kf V2 V3 (dg (bL))))
 (ap (eS (b0 K V1) U4 (cT (Ad K "list" eI (kL K V2 (aD (rL K) V4 (tC (.int 0)))) (aA V4))))
 (aO V2)))
def qz:List Str:=["rooms","doors","leaving","room","door"]
def pP(K:Za):TS :=
 aO (gP (Jf K) (aw (cA 1 [] (b0 K V0) U0 (ic) (aD xz (aD (rL K) (aD (rL K) V0 (tC (.int 1))) (tC (.int 0))) (tC (.str "ask")))) bL))
def qy:List Str:=["doors"]
def mT(K:Za)(sp_need_none:Sp)(sp_first_led_round:Sp)(sp_led_by_still:Sp)(sp_goals_by_start_and_sign:Sp)(sp_as_keys:Sp)(sp_has_asks_alone:Sp)(sp_doors_by_start:Sp)(sp_need_parts:Sp):TS :=
 ap (cT (aN sp_need_parts (aw V1 (du V2 V3 V4))))
 (ap (oI K V0 (gP (eo K) (aA V1)) "own_asks")
 (ap (oI K V0 (gP (eo K) (aA V2)) "own_says")
 (ap (oI K V0 (gP (eo K) (aA V3)) "own_rooms")
 (ap (oI K V0 (gP (eo K) (aA V4)) "own_doors")
 (ap (oI K V0 (aN sp_doors_by_start (aZ V3 V4)) "leaving")
 (ap (oI K V0 (aN sp_as_keys (aw (cA 1 [0] (b0 K V3) U0 (tB (aN sp_has_asks_alone (aA (kL K (iD K V1 "leaving") V0)))) V0) bL)) "quiet")
 (ap (oI K V0 (aN sp_goals_by_start_and_sign (aA V4)) "sign_goals")
 (ap (oI K V0 (gP (GU K) (aw (cA 1 [0] (b0 K V3) U0 (ic) (bR (aZ V0 (aN sp_led_by_still (aw (iD K V1 "sign_goals") (aA V0)))))) bL)) "still_led")
 (cT (aN sp_need_none (aZ (tC (.str "still")) (aN sp_first_led_round (aw V3 (aA (iD K V0 "still_led")))))))))))))))
def nG:List Str:=["self","asks","says","rooms","doors"]
def mS(K:Za):TS :=
 aO (CV K V1 (iD K V0 "quiet"))
def nF:List Str:=["self","room"]
def my(K:Za)(sp_with_still:Sp)(C_Machine:Addr)(sp_Machine_goals:Sp)(a_HUSH:Addr)(sp_Machine_is_quiet:Sp):TS :=
 ap (cK (aW (aD (u9 K) V2 (tC (.ref a_HUSH)))) (aO (gP (tL K) (aA (cA 1 [0] (Du K V1) U0 (tB (bZ C_Machine "is_quiet" sp_Machine_is_quiet [] E0 V1 (aA V0))) V0)))) (bC))
 (ap (aI (dg (bL)) U3)
 (ap (eS (Du K V1) U4 (cT (Ad K "list" BO V3 (aA (bZ C_Machine "goals" sp_Machine_goals [] E0 V0 (aZ V4 V2))))))
 (aO (aN sp_with_still (aZ V0 V3)))))
def mC:List Str:=["M","face","sign","goals","room"]
def ca(p:Addr)(H H':Hp):Prop:=∀b o,H b=some o->b≠p->H' b=some o
theorem ca.refl(p:Addr)(H:Hp):ca p H H:=fun _ _ h _=>h
theorem ca.trans{p:Addr}{H H1 H2:Hp}(a:ca p H H1)(b:ca p H1 H2):ca p H H2:=fun c o h n=>b c o (a c o h n) n
theorem ab.exB{p:Addr}{H H':Hp}(a:ab H H'):ca p H H':=fun b o h _=>a b o h
theorem ca.upd(p:Addr)(H:Hp)(o:HO):ca p H (upd H p o):=fun b u h n=>by rw[ah n];exact h
theorem ab.new{H:Hp}{a:Addr}{o:HO}(h:H a=none):ab H (upd H a o):=fun b u e=>by rw[ah (ae e h)];exact e
theorem ca.free{p:Addr}{H H':Hp}(e:ca p H H'){u:HO}(hp:H' p=some u){l:Addr}(h:H' l=none):H l=none:=by
 cases q:H l with
 |none=>rfl
 |some o =>
  by_cases z:l=p
  ·subst z;rw[hp]at h;cases h
  ·rw[e l o q z]at h;cases h
theorem kp{H:Hp}{a b:Addr}{o x:HO}(h:H b=some o)(n:H a=none):upd H a x b=some o:=by rw[ah (ae h n)];exact h
structure CA(H:Hp)(p c:Addr)(at_ rest:Int)(ns:List Int):Prop where
 pen:H p=some (.lst [.ref c,.int at_,.int rest])
 cells:H c=some (.lst (ns.map V.int))
 at0:0<=at_
 rest0:0<=rest
theorem CA.ne{H:Hp}{p c:Addr}{a r:Int}{ns:List Int}(h:CA H p c a r ns):c≠p:=by
 intro e;have h1:=h.pen;have h2:=h.cells;rw[e,h1]at h2;injection h2 with h2;injection h2 with h2;cases ns with
 |nil=>cases h2
 |cons n ns=>injection h2 with h2;cases h2
def gW(H:Hp)(p c:Addr):Prop:=∃a r ns,CA H p c a r ns
theorem gW.ex{H H':Hp}{p c:Addr}(h:gW H p c)(e:ab H H'):gW H' p c:=by
 obtain⟨a,r,ns,h1,h2,h3,h4⟩:=h;exact⟨a,r,ns,e _ _ h1,e _ _ h2,h3,h4⟩
theorem gW.pen{H:Hp}{p c:Addr}(h:gW H p c):∃o,H p=some o:=by
 obtain⟨a,r,ns,h1,_⟩:=h;exact⟨_,h1⟩
theorem gW.cell{H:Hp}{p c:Addr}(h:gW H p c):∃o,H c=some o:=by
 obtain⟨a,r,ns,_,h1,_⟩:=h;exact⟨_,h1⟩
theorem gW.upd{H:Hp}{p c l:Addr}{o:HO}(h:gW H p c)(h1:p≠l)(h2:c≠l):gW (upd H l o) p c:=by
 obtain⟨a,r,ns,g1,g2,g3,g4⟩:=h;exact⟨a,r,ns,by rw[ah h1];exact g1,by rw[ah h2];exact g2,g3,g4⟩
theorem gW.nep{H:Hp}{p c l:Addr}(h:gW H p c)(hl:H l=none):p≠l:=let⟨_,e⟩:=h.pen;ae e hl
theorem gW.nec{H:Hp}{p c l:Addr}(h:gW H p c)(hl:H l=none):c≠l:=let⟨_,e⟩:=h.cell;ae e hl
theorem ca.new{p:Addr}{H:Hp}{a:Addr}{o:HO}(h:H a=none):ca p H (L2.upd H a o):=fun b u e _=>by rw[ah (ae e h)];exact e
inductive lC (vs:List V)(H:Hp)(Q:VK)(E:XK):Prop
 |mk (c a:Int):(vs=[.int c,.int a])->(0<=a)->(∀r:Int,0<=r->Q (.int r) H)->lC  vs H Q E
theorem pc{i j:Int}(h1:-(2 ^ 64)<j)(h2:j<2 ^ 64):Gd i j:=.inr ⟨h1,h2⟩
theorem C1{K:Za}{vs:List V}{H:Hp}{Q:VK}{E:XK}(h:lC vs H Q E):wX K (be Q) (start yk vs) H:=by
 obtain⟨c,a,rfl,ha,k⟩:=h;refine⟨_,rfl,_,_,rfl,rfl,⟨by decide,by decide,by decide⟩,_,_,rfl,rfl,_,rfl,?_⟩;refine k3 (fun h=>?_) (fun _=>?_)
 ·refine⟨_,rfl,k _ ?_⟩;have:=of_decide_eq_true h;have e:((10:Int) ^ (18:Int).toNat)=1000000000000000000:=by decide
  omega
 ·have one:∀z:Int,0<=z % 2147483629/\z % 2147483629<2147483629:=fun z=>⟨g_ _ (by decide),g9 _ (by decide)⟩;have two:∀z:Int,0<=z % 2147483587/\z % 2147483587<2147483587:=fun z=>⟨g_ _ (by decide),g9 _ (by decide)⟩;have three:∀z:Int,0<=z % 2147483563/\z % 2147483563<2147483563:=fun z=>⟨g_ _ (by decide),g9 _ (by decide)⟩;refine⟨_,rfl,_,_,rfl,rfl,(by show(0:Int)<1000000007;decide),_,_,rfl,rfl,pc (by decide) (by decide),_,rfl,_,_,rfl,rfl,pc (by decide) (by decide),_,_,rfl,rfl,_,_,rfl,rfl,_,_,rfl,rfl,(by show(0:Int)<2147483629;decide),?_⟩;generalize hz1:(c % 1000000007 * 69069+a * 40503+977)=z1;obtain⟨o1,o2⟩:=one z1;generalize z1 % 2147483629=o at o1 o2 ⊢;refine⟨_,rfl,_,rfl,_,_,rfl,rfl,pc (by omega) (by omega),_,rfl,_,_,rfl,rfl,pc (by decide) (by decide),_,_,rfl,rfl,_,rfl,_,_,rfl,rfl,(by show(0:Int)<65537;decide),_,_,rfl,rfl,_,_,rfl,rfl,(by show(0:Int)<2147483587;decide),?_⟩;generalize hz2:(o * o+a * 7919+c % 65537)=z2;obtain⟨p1,p2⟩:=two z2;generalize z2 % 2147483587=q at p1 p2 ⊢;refine⟨_,rfl,_,rfl,_,_,rfl,rfl,pc (by omega) (by omega),_,rfl,_,_,rfl,rfl,pc (by decide) (by decide),_,_,rfl,rfl,_,_,rfl,rfl,_,_,rfl,rfl,(by show(0:Int)<2147483563;decide),?_⟩;generalize hz3:(q * q+o * 31+5)=z3;obtain⟨r1,r2⟩:=three z3;generalize z3 % 2147483563=r at r1 r2 ⊢;refine⟨_,rfl,_,_,rfl,rfl,pc (by decide) (by decide),_,rfl,_,_,rfl,rfl,_,_,rfl,rfl,pc (by decide) (by decide),_,rfl,_,_,rfl,rfl,k _ ?_⟩;omega
def xr:Sp:=fun vs H Q _=>∃p c,vs=[.ref p]/\gW H p c/\∀H',gW H' p c->ca p H H'->Q (.ref p) H'
theorem GQ{K:Za}{vs:List V}{H:Hp}{Q:VK}{E:XK}(h:xr vs H Q E):Ao K (be Q) (start Bo vs) H:=by
 obtain⟨p,c,rfl,⟨a,r,ns,h⟩,k⟩:=h;refine⟨_,rfl,p,_,_,_,rfl,rfl,h.pen,rfl,_,rfl,k _ ⟨a,0,ns,aa,?_,h.at0,mI 0⟩ (ca.upd _ _ _)⟩;rw[ah h.ne];exact h.cells
theorem Cu{ns:List Int}{a:Int}(h0:0<=a)(h1:a<ns.length):∃z,yb (ns.map V.int) a=some (.int z):=by
 obtain⟨n,rfl⟩:=mH h0;have hn:n<ns.length:=by omega
 exact⟨ns[n],aX (by simp[hn])⟩
inductive gE (vs:List V)(H:Hp)(Q:VK)(E:XK):Prop
 |mk (p c:Addr) (m:Int):(vs=[.ref p,.int m])->(gW H p c)->(0<m)->(m<1073741824)->(∀(r:Int) (H':Hp),0<=r->r<m->gW H' p c->ca p H H'->Q (.int r) H')->gE  vs H Q E
theorem hJ{H:Hp}{Q:VK}{E:XK}{p c:Addr}{m:Int}(hp:gW H p c)(m0:0<m)(m1:m<1073741824)(k:∀(r:Int) (H':Hp),0<=r->r<m->gW H' p c->ca p H H'->Q (.int r) H'):gE [.ref p,.int m] H Q E:=by
 exact⟨p,c,m,rfl,hp,m0,m1,k⟩
theorem GD{K:Za}{vs:List V}{H:Hp}{Q:VK}{E:XK}(h:gE vs H Q E):Am K lC (be Q) (start Bm vs) H:=by
 obtain⟨p,c,m,rfl,⟨a,r,ns,h⟩,hm,hm2,k⟩:=h;have fin:∀(H':Hp) (a' r':Int) (x y:Option V),CA H' p c a' r' ns->ca p H H' ->
   (ap (aI (aD iG (aD (d7 K) V0 (tC (.int 2))) V1) U4) (ap (aI (aD EQ (aD (d7 K) V0 (tC (.int 2))) V1) (A7 V0 (tC (.int 2)) tM)) (aO V4)))
    (be Q) [some (.ref p),some (.int m),x,y,none] H':=by
  intro H' a' r' x y h' ex;refine⟨_,rfl,p,_,2,_,rfl,rfl,az.of h'.pen,rfl,_,rfl,_,_,rfl,rfl,hm,?_⟩;refine⟨_,rfl,p,_,2,_,rfl,rfl,az.of h'.pen,rfl,_,rfl,_,_,rfl,rfl,⟨hm,hm2⟩,_,rfl,p,_,_,_,rfl,rfl,h'.pen,rfl,?_⟩;refine⟨_,rfl,k _ _ (g_ _ (by omega)) (g9 _ hm) ⟨a',_,ns,aa,?_,h'.at0,Int.ediv_nonneg h'.rest0 (by omega)⟩ (ex.trans (ca.upd _ _ _))⟩;rw[ah h'.ne];exact h'.cells
 refine⟨_,rfl,p,_,2,_,rfl,rfl,az.of h.pen,rfl,_,rfl,_,_,rfl,rfl,_,rfl,?_⟩;refine k3 (fun h1=>?_) (fun h1=>?_)
 ·-- at=pen[1];cell=0;if at<len(pen[0])
  refine⟨_,rfl,p,_,1,_,rfl,rfl,az.of h.pen,rfl,?_⟩;have la:(V.int ((ns.map V.int).length:Nat))=V.int (ns.length:Nat):=by rw[ai]
  refine⟨_,rfl,_,rfl,p,_,0,_,rfl,rfl,az.of h.pen,rfl,.inl ⟨c,_,rfl,.inl (az.of h.cells),_,_,rfl,la,_,rfl,?_⟩⟩;refine k3 (fun h2=>?_) (fun h2=>?_)
  ·obtain⟨z,hz⟩:=Cu (ns:=ns) h.at0 (of_decide_eq_true h2);refine⟨_,rfl,p,_,0,_,rfl,rfl,az.of h.pen,rfl,_,rfl,c,_,_,_,rfl,rfl,az.of h.cells,hz,?_⟩;refine⟨_,rfl,_,_,rfl,rfl,_,rfl,p,_,_,_,rfl,rfl,h.pen,rfl,?_⟩;refine⟨_,rfl,_,rfl,_,_,rfl,h.at0,fun q hq=>⟨_,rfl,p,_,_,_,rfl,rfl,aa,rfl,?_⟩⟩;rw[rZ];refine fin _ (a+1) q _ _ ⟨aa,by rw[ah h.ne];exact h.cells,by have:=h.at0;omega,hq⟩ (ca.upd _ _ _)
  ·refine⟨_,rfl,p,_,0,_,rfl,rfl,az.of h.pen,rfl,.inl ⟨c,_,rfl,.inl (az.of h.cells),_,_,la,rfl,_,rfl,?_⟩⟩;refine k3 (fun h3=>?_) (fun h3=>?_)
   ·have hl:(0:Int)<ns.length:=of_decide_eq_true h3;obtain⟨z,hz⟩:=Cu (ns:=ns) (a:=(a * 5+3) % (ns.length:Int)) (g_ _ (by omega)) (g9 _ hl);refine⟨_,rfl,p,_,0,_,rfl,rfl,az.of h.pen,rfl,_,rfl,_,_,rfl,rfl,pc (by decide) (by decide),_,_,rfl,rfl,_,rfl,p,_,0,_,rfl,rfl,az.of h.pen,rfl,.inl ⟨c,_,rfl,.inl (az.of h.cells),_,_,rfl,la,hl,c,_,_,_,rfl,rfl,az.of h.cells,hz,?_⟩⟩;refine⟨_,_,rfl,rfl,⟨by decide,by decide,by decide⟩,_,rfl,_,_,rfl,rfl,_,_,rfl,rfl,?_,?_⟩
    ·have e:((10:Int) ^ (17:Int).toNat)=100000000000000000:=by decide
     have:=h.at0;show(0:Int)<10 ^ (17:Int).toNat+a;omega
    refine⟨_,rfl,_,_,rfl,rfl,_,rfl,p,_,_,_,rfl,rfl,h.pen,rfl,?_⟩;refine⟨_,rfl,_,rfl,_,_,rfl,h.at0,fun q hq=>⟨_,rfl,p,_,_,_,rfl,rfl,aa,rfl,?_⟩⟩;rw[rZ];refine fin _ (a+1) q _ _ ⟨aa,by rw[ah h.ne];exact h.cells,by have:=h.at0;omega,hq⟩ (ca.upd _ _ _)
   ·refine⟨_,rfl,_,_,rfl,rfl,_,rfl,p,_,_,_,rfl,rfl,h.pen,rfl,?_⟩;refine⟨_,rfl,_,rfl,_,_,rfl,h.at0,fun q hq=>⟨_,rfl,p,_,_,_,rfl,rfl,aa,rfl,?_⟩⟩;rw[rZ];refine fin _ (a+1) q _ _ ⟨aa,by rw[ah h.ne];exact h.cells,by have:=h.at0;omega,hq⟩ (ca.upd _ _ _)
 ·exact fin H a r _ _ h (ca.refl _ _)
inductive r9(K:Za)(vs:List V)(H:Hp)(Q:VK)(E:XK):Prop
 |mk (a:Addr) (ns:List Int):(vs=[.ref a])->(az K H a (ns.map V.int))->(ns.length<=63)->(∀(p c:Addr) (H':Hp),H p=none->gW H' p c->ab H H'->Q (.ref p) H')->r9 K vs H Q E
theorem vU(ns:List Int)(lo hi:Option Int):∃ms:List Int,fU (ns.map V.int) lo hi=ms.map V.int/\ms.length=(fU (ns.map V.int) lo hi).length:=by
 refine⟨(ns.drop (HT.sIx (ns.map V.int).length 0 lo)).take (HT.sIx (ns.map V.int).length (ns.map V.int).length hi-HT.sIx (ns.map V.int).length 0 lo),?_,?_⟩
 ·unfold fU;rw[wo,wn]
 ·unfold fU;rw[aM,aM,fA,fA,ai]
theorem GG{K:Za}{vs:List V}{H:Hp}{Q:VK}{E:XK}(h:r9 K vs H Q E):An K (be Q) (start Bn vs) H:=by
 obtain⟨a,ns,rfl,hs,hn,k⟩:=h;obtain⟨c0,e0,l0⟩:=vU ns none (some 12);obtain⟨c1,e1,l1⟩:=vU ns (some 12) (some 63);have hlen:c1≠[]->c0.length=12:=by
  intro hne;have hc1:0<c1.length:=by cases c1 with|nil=>exact absurd rfl hne|cons _ _=>simp
  rw[l1]at hc1;rw[l0];unfold fU at hc1 ⊢;rw[aM,fA,ai]at hc1;rw[aM,fA,ai];have s1:HT.sIx ns.length 0 (some 12)=min 12 ns.length:=HT.sIx_nat _ _ 12;have s2:HT.sIx ns.length ns.length (some 12)=min 12 ns.length:=HT.sIx_nat _ _ 12;rw[HT.sIx_none,s2];rw[s1]at hc1;omega
 refine⟨_,rfl,_,rfl,a,_,rfl,hs,fun q hq=>.inl ⟨q,_,rfl,.inl (az.of aa),fun c hc=>?_⟩⟩;rw[e0]at hc ⊢;have hcH:H c=none:=by
  have:c≠q:=fun z=>by subst z;rw[aa]at hc;cases hc
  rw[ah this]at hc;exact hc
 have hS:ab H (upd (upd H q (.lst (c0.map V.int))) c (.lst (c0.map V.int))):=(ab.new hq).trans (ab.new hc);refine⟨_,rfl,_,rfl,_,rfl,a,_,rfl,hS.seq hs,fun r hr=>⟨r,rfl,⟨_,az.of aa⟩,?_⟩⟩;rw[e1];have hcr:c≠r:=ae aa hr;refine jy (xs:=c1.map V.int) (fun i σ H'=>JM fun(ms:List Int) (x y:Option V)=>JN (σ=[some (.ref a),some (.ref c),x,y]) (H' c=some (.lst (ms.map V.int))) (ms.length=c0.length) (H' r=some (.lst (c1.map V.int))) (ab H H'))
  ⟨c0,none,none,rfl,kp aa hr,rfl,aa,hS.trans (ab.new hr)⟩ (fun i σ H' _ ⟨ms,x,y,_,_,_,h,_⟩=>az.of h) ?_ ?_
 ·rintro i x σ H' t hi ⟨ms,u,v,rfl,hcell,hml,hr',hS'⟩ ht;have hi':i<c1.length:=by
   have:=(bY.mp hi).1;rwa[ai]at this
  have h12:=hlen (fun z=>by rw[z]at hi';simp at hi');obtain⟨z,rfl⟩:∃z,x=V.int z:=by
   rw[de,cN hi']at hi;exact⟨_,(ff hi).symm⟩
  have hcell1:upd H' t (.tup [.int i,.int z]) c=some (.lst (ms.map V.int)):=kp hcell ht;have hidx:(i:Int) % 12=((i % 12:Nat):Int):=by omega
  have hlt:i % 12<ms.length:=by omega
  refine⟨t,_,rfl,bE.of aa,rfl,_,_,rfl,_,_,rfl,rfl,?_⟩;have hat:yb (ms.map V.int) ((i:Int) % 12)=some (.int ms[i % 12]):=by rw[hidx];exact aX (by simp[hlt])
  refine⟨_,rfl,_,rfl,_,_,rfl,rfl,(by show(0:Int)<12;decide),c,_,_,_,rfl,rfl,az.of hcell1,hat,_,rfl,_,_,rfl,rfl,_,rfl,_,rfl,_,_,rfl,rfl,(by show(0:Int)<12;decide),c,_,_,i % 12,rfl,rfl,hcell1,?_,?_⟩
  ·rw[hidx];unfold Ge;rw[if_pos (by omega),if_pos (by rw[ai];omega)];rw[kG]
  ·refine⟨ms.set (i % 12) (ms[i % 12]+z),_,_,rfl,?_,by rw[List.length_set];exact hml,?_,?_⟩
   ·rw[aa,List.map_set]
   ·rw[ah hcr.symm];exact kp hr' ht
   ·intro b o e;rw[ah (ae e hcH)];exact kp (hS' b o e) ht
 ·rintro σ H' ⟨ms,x,y,rfl,hcell,hml,hr',hS'⟩;refine⟨_,rfl,(by show 3<=aj;decide),fun p hp=>k p c _ (hS'.free hp) ⟨0,0,ms,aa,kp hcell hp,mI _,mI _⟩ (hS'.trans (ab.new hp))⟩
def xG(c:Nat):Prop:=97<=c/\c<=122
structure qC(w:Str):Prop where
 lo:1<=w.length
 hi:w.length<=8
 al:∀c∈w.cps.toList,xG c
theorem Cw:∀n:Nat,n<26->(("abcdefghijklmnopqrstuvwxyz":Str).cps.toList)[n]?=some (97+n):=by decide +kernel
theorem Cv:("abcdefghijklmnopqrstuvwxyz":Str).length<=aj:=by decide +kernel
theorem FW{r:Int}(h0:0<=r)(h1:r<26):yb (("abcdefghijklmnopqrstuvwxyz":Str).cps.toList) r=some (97+r.toNat):=by
 obtain⟨n,rfl⟩:=mH h0;rw[kG];exact aX (Cw n (by omega))
theorem va(cs:List Nat):∀acc:Array Nat,((cs.map fun c=>(⟨#[c]⟩:Str)).foldl (fun acc p=>acc++("":Str).cps++p.cps) acc).toList=acc.toList++cs:=by
 have e:("":Str).cps=#[]:=by decide +kernel
 induction cs with
 |nil=>intro acc;simp
 |cons c cs ih =>
  intro acc;rw[bg,List.foldl_cons,ih,e];simp
theorem AY(cs:List Nat):(wx "" (cs.map fun c=>(⟨#[c]⟩:Str))).cps.toList=cs:=by
 unfold wx cE.Str.glued;cases cs with
 |nil=>rfl
 |cons c cs =>
  rw[bg];show((cs.map fun c=>(⟨#[c]⟩:Str)).foldl (fun acc p=>acc++("":Str).cps++p.cps) #[c]).toList=_;rw[va]
  rfl
theorem Gw{a b:Str}(h:a.cps.toList=b.cps.toList):a=b:=by
 cases a with|mk x=>cases b with|mk y=>exact congrArg Str.mk (Array.toList_inj.mp h)
theorem fk(a:Str):a.length=a.cps.toList.length:=by simp[Str.length]
theorem yd(a b:Str):(a++b).cps.toList=a.cps.toList++b.cps.toList:=by
 show(a.cps++b.cps).toList=_;simp
theorem FQ(z:Str)(m:Nat):(ur z none (some (m:Int))).cps.toList=z.cps.toList.take m:=by
 unfold ur;rw[HT.sIx_none,HT.sIx_nat,sK,Nat.sub_zero,fk];show List.take _ _=_;rw[List.take_eq_take_iff];omega
theorem FR(z:Str)(m:Nat):(ur z (some (m:Int)) none).cps.toList=z.cps.toList.drop m:=by
 unfold ur;rw[HT.sIx_none,HT.sIx_nat,fk];show List.take _ _=_;rw[sI (by rw[fA];omega)];by_cases h:m<=z.cps.toList.length
 ·rw[wm h]
 ·rw[Nat.min_eq_right (by omega),sG,pj (by omega)]
def eR(way size k:Nat):Nat:=(size+k * (way % 2)) % 8
def Ac(way m:Nat):Nat:=if way=0 then 0 else if way=1 then m else m / 2
def mx(b:List Nat)(way turn size k:Nat):List Nat :=
 (b.take (eR way size k)).take (Ac way (eR way size k))++[97+(turn+3 * k) % 26]++(b.take (eR way size k)).drop (Ac way (eR way size k))
def yD(b:List Nat)(way turn size k:Nat):Str:=⟨(mx b way turn size k).toArray⟩
theorem pI{b:List Nat}(hb:b.length=7)(way turn size k:Nat):(mx b way turn size k).length=eR way size k+1:=by
 have h8:eR way size k<8:=sF _ (by decide);unfold mx;rw[aE,aE,aM,fA,aM,hb];have:Ac way (eR way size k)<=eR way size k:=by unfold Ac;split;omega;split;omega;omega
 simp;omega
theorem Gi{b:List Nat}(hb:b.length=7)(hl:∀c∈b,xG c)(way turn size k:Nat):qC (yD b way turn size k):=by
 have h8:eR way size k<8:=sF _ (by decide);have hlen:=pI hb way turn size k;have e:(yD b way turn size k).cps.toList=mx b way turn size k:=by simp[yD]
 refine⟨?_,?_,?_⟩
 ·rw[fk,e];omega
 ·rw[fk,e];omega
 ·rw[e];intro c hc;unfold mx at hc;rcases br.mp hc with hc|hc
  ·rcases br.mp hc with hc|hc
   ·exact hl c (fL (fL hc))
   ·have:c=97+(turn+3 * k) % 26:=by simpa using hc
    subst this;have:(turn+3 * k) % 26<26:=sF _ (by decide);exact⟨by omega,by omega⟩
  ·exact hl c (fL (wk hc))
theorem Eh{b:List Nat}(hb:b.length=7){way turn size:Nat}(hw:way<3){j k:Nat}(hj:j<26)(hk:k<26)(h:yD b way turn size j=yD b way turn size k):j=k:=by
 have h8:∀i,eR way size i<8:=fun i=>sF _ (by decide);have e:mx b way turn size j=mx b way turn size k:=by
  have:=congrArg (fun s=>Str.cps s |>.toList) h;simpa[yD]using this
 have el:eR way size j=eR way size k:=by
  have:=congrArg List.length e;rw[pI hb,pI hb]at this;omega
 have key:97+(turn+3 * j) % 26=97+(turn+3 * k) % 26:=by
  have hat:∀i,Ac way (eR way size i)<=eR way size i:=fun i=>by unfold Ac;split;omega;split;omega;omega
  have get:∀i,(mx b way turn size i)[Ac way (eR way size i)]?=some (97+(turn+3 * i) % 26):=by
   intro i;unfold mx;have hl:((b.take (eR way size i)).take (Ac way (eR way size i))).length=Ac way (eR way size i):=by
    rw[aM,aM,hb];have:=h8 i;have:=hat i;omega
   rw[eQ,sW (by omega),hl,Nat.sub_self]
   rfl
  have g1:=get j;have g2:=get k;rw[e,el]at g1;rw[g1]at g2;exact ff g2
 omega
def lS(ws:Zb):Prop:=ws.Nodup/\∀w∈ws,qC w
def jI(b:List Nat)(way turn size n:Nat):List Str:=(nS n).map (yD b way turn size)
theorem Ag{b:List Nat}(hb:b.length=7)(hl:∀c∈b,xG c){way turn size n:Nat}(hw:way<3)(hn:n<=26):lS (jI b way turn size n):=by
 refine⟨?_,fun w hm=>?_⟩
 ·unfold jI;rw[wj,List.pairwise_map];refine(List.nodup_range (n:=n)).imp_of_mem ?_;intro j k hj hk hne h;exact hne (Eh hb hw (by have:=List.mem_range.mp hj;omega) (by have:=List.mem_range.mp hk;omega) h)
 ·obtain⟨k,_,rfl⟩:=aL.mp hm;exact Gi hb hl _ _ _ _
inductive oq (vs:List V)(H:Hp)(Q:VK)(E:XK):Prop
 |mk (p c:Addr) (n:Nat):(vs=[.ref p,.int n])->(gW H p c)->(n<=26)->(∀(l:Addr) (ws:Zb) (H':Hp),lS ws->ws.length=n->H l=none->H' l=some (.lst (ws.map V.str))->gW H' p c->ca p H H'->Q (.ref l) H')->oq  vs H Q E
theorem EC{K:Za}{vs:List V}{H:Hp}{Q:VK}{E:XK}(h:oq vs H Q E):yN K gE (be Q) (start z8 vs) H:=by
 obtain⟨p,c,n,rfl,hp,hn,k⟩:=h;refine⟨rfl,7,rfl,by decide,by decide,fun l hl=>?_⟩;refine Bc (lo:=0) (n:=Int.toNat 7) (fun i vs H'=>∃cs:List Nat,vs=cs.map (fun c=>V.str ⟨#[c]⟩)/\cs.length=i/\(∀c∈cs,xG c)/\gW H' p c/\ca p H H'/\H' l=some (.lst vs))
  ⟨[],rfl,rfl,(fun _ h=>nomatch h),hp.ex (ab.new hl),ca.new hl,aa⟩ (fun i vs H' _ ⟨_,_,_,_,_,_,h⟩=>h) ?_ ?_
 rotate_left
 ·rintro i vs H' hi ⟨cs,rfl,hlen,hlet,hp',hex,hl'⟩;have hlp:=hp.nep hl;have hlc:=hp.nec hl;refine gN (pH ?_);refine⟨_,rfl,_,rfl,hJ hp' (by decide) (by decide) fun r H2 h0 h1 hp2 hex2=>⟨_,r,_,rfl,rfl,Cv,FW h0 h1,?_⟩⟩;have hl2:=hex2 l _ hl' hlp.symm;refine⟨hl2,by rw[ai,hlen];exact am (by omega),ni hi ⟨cs++[97+r.toNat],by rw[ar];rfl,by rw[aE,hlen];rfl,?_,hp2.upd hlp hlc,?_,aa⟩⟩
  ·intro x hc;rcases br.mp hc with hc|hc
   ·exact hlet x hc
   ·have:x=97+r.toNat:=by simpa using hc
    subst this;exact⟨by omega,by omega⟩
  ·intro b o' e nb;rw[ah (ae e hl)];exact hex2 b o' (hex b o' e nb) nb
 ·rintro vs H1 ⟨cs,rfl,hlen,hlet,hp1,hex1,hl1⟩;refine⟨"",l,cs.map fun c=>(⟨#[c]⟩:Str),rfl,rfl,az.of (by rw[hl1,jH];rfl),?_,?_⟩
  ·have e0:("":Str).length=0:=by decide +kernel
   rw[e0,Nat.mul_zero,jH];have:∀cs:List Nat,(cs.map ((fun x=>Str.length x) ∘ fun c=>(⟨#[c]⟩:Str))).sum=cs.length:=by
    intro cs
    induction cs with
    |nil=>rfl
    |cons c cs ih=>rw[bg,mG,ih,fG];show 1+_=_;omega
   rw[this,hlen];decide
  refine⟨_,rfl,hJ hp1 (by decide) (by decide) fun way H2 w0 w1 hp2 hex2=>?_⟩;refine⟨_,rfl,hJ hp2 (by decide) (by decide) fun turn H3 t0 t1 hp3 hex3=>?_⟩;refine⟨_,rfl,hJ hp3 (by decide) (by decide) fun size H4 s0 s1 hp4 hex4=>?_⟩;have ex4:ca p H H4:=((hex1.trans hex2).trans hex3).trans hex4;obtain⟨wy,rfl⟩:=mH w0;obtain⟨tn,rfl⟩:=mH t0;obtain⟨sz,rfl⟩:=mH s0;have hb:=AY cs;generalize wx "" (cs.map fun c=>(⟨#[c]⟩:Str))=base at hb ⊢;refine⟨(by show 0<=aj;decide),fun f hf=>?_⟩;obtain⟨op,hop⟩:=hp4.pen;have hfH:H f=none:=ex4.free hop hf;have hfp:=hp.nep hfH;have hfc:=hp.nec hfH;refine⟨_,rfl,n,rfl,by omega,by omega,jx (lo:=0) (n:=((n:Int)).toNat) (fun i σ H'=>∃(a b c' d:Option V),σ=[some (.ref p),some (.int n),some (.str "abcdefghijklmnopqrstuvwxyz"),some (.str base),some (.int wy),some (.int tn),some (.int sz),some (.ref f),a,b,c',d] /\
   gW H' p c/\ca p H H'/\H' f=some (.lst ((jI cs wy tn sz i).map V.str)))
   ⟨_,_,_,_,rfl,hp4.upd hfp hfc,ex4.trans (ca.new hf),aa⟩ ?_ ?_⟩
  ·rintro i σ H' hi ⟨a,b,c',d,rfl,hp',hex',hf'⟩;have hi':i<n:=by omega
   have hwy:wy<3:=by omega
   have e26:((tn:Int)+3 * (0+(i:Int))) % 26=(((tn+3 * i) % 26:Nat):Int):=by omega
   refine⟨_,rfl,_,rfl,_,rfl,_,_,rfl,rfl,.inl ⟨by decide,by decide⟩,_,_,rfl,rfl,_,_,rfl,rfl,(by show(0:Int)<26;decide),_,_,_,rfl,rfl,Cv,FW (g_ _ (by decide)) (g9 _ (by decide)),?_⟩;have blen:base.length<=aj:=by rw[fk,hb,hlen];decide
   have e8:((sz:Int)+(0+(i:Int)) * ((wy:Int) % 2)) % 8=((eR wy sz i:Nat):Int):=by
    unfold eR;have:wy=0∨wy=1∨wy=2:=by omega
    rcases this with rfl|rfl|rfl<;>simp<;>omega
   refine⟨_,rfl,_,rfl,_,rfl,_,rfl,_,_,rfl,rfl,(by show(0:Int)<2;decide),_,_,rfl,rfl,.inr ⟨by omega,by omega⟩,_,_,rfl,rfl,_,_,rfl,rfl,(by show(0:Int)<8;decide),_,rfl,base,rfl,blen,?_⟩;rw[e8];have hpart:=FQ base (eR wy sz i);rw[hb]at hpart;generalize ur base none (some ((eR wy sz i:Nat):Int))=part at hpart ⊢;have h8:eR wy sz i<8:=sF _ (by decide);have plen:part.length=eR wy sz i:=by rw[fk,hpart,aM,hlen];omega
   have pz:part.length<=aj:=by rw[plen];exact c6 (am (by omega))
   refine⟨_,rfl,.inr ⟨part,rfl,pz,_,rfl,.inr ⟨part,rfl,pz,_,_,rfl,rfl,⟨by decide,by decide⟩,(by show 3<=aj;decide),fun q hq=>?_⟩⟩⟩;have hqH:H q=none:=by
    obtain⟨op',hop'⟩:=hp'.pen;exact hex'.free hop' hq
   have hat:yb [V.int 0,V.int (part.length:Nat),V.int ((part.length:Int) / 2)] (wy:Int)=some (.int (Ac wy (eR wy sz i):Nat)):=by
    rw[plen];have:wy=0∨wy=1∨wy=2:=by omega
    rcases this with rfl|rfl|rfl
    ·rfl
    ·rfl
    ·show some (V.int (((eR 2 sz i:Nat):Int) / 2))=some (V.int ((Ac 2 (eR 2 sz i):Nat):Int));have:Ac 2 (eR 2 sz i)=eR 2 sz i / 2:=rfl;rw[this];congr 2
   refine⟨_,rfl,q,_,_,_,rfl,rfl,az.of aa,hat,?_⟩;have hf2:upd H' q (.lst [V.int 0,V.int (part.length:Nat),V.int ((part.length:Int) / 2)]) f=some (.lst ((jI cs wy tn sz i).map V.str)):=kp hf' hq;have c1:=FQ part (Ac wy (eR wy sz i));have c2:=FR part (Ac wy (eR wy sz i));have l1:(ur part none (some ((Ac wy (eR wy sz i):Nat):Int))).length<=8:=by rw[fk,c1,aM,hpart,aM,hlen];omega
   have l2:(ur part (some ((Ac wy (eR wy sz i):Nat):Int)) none).length<=8:=by rw[fk,c2,fA,hpart,aM,hlen];omega
   refine⟨_,rfl,.inl ⟨rfl,_,az.of hf2⟩,_,rfl,_,rfl,_,rfl,part,rfl,pz,_,rfl,_,_,rfl,rfl,?_,_,rfl,_,rfl,_,rfl,part,rfl,pz,_,_,rfl,rfl,?_,f,_,_,rfl,rfl,hf2,?_,?_⟩
   ·have:Str.length ⟨#[97+(((tn:Int)+3 * (0+(i:Int))) % 26).toNat]⟩=1:=rfl;rw[this];exact c6 (am (by omega))
   ·rw[fk,yd,aE,<-fk,<-fk];have:Str.length ⟨#[97+(((tn:Int)+3 * (0+(i:Int))) % 26).toNat]⟩=1:=rfl;rw[this];exact c6 (am (by omega))
   ·rw[ai];unfold jI;rw[ai,List.length_range];exact am (by omega)
   ·refine⟨_,_,_,_,rfl,(hp'.upd (hp.nep hqH) (hp.nec hqH)).upd hfp hfc,?_,?_⟩
    ·intro b' o' e nb;rw[ah (ae e hfH)];exact kp (hex' b' o' e nb) hq
    ·rw[aa];unfold jI;rw[List.range_succ,ar,ar];congr 3;show[V.str _]=[V.str _];congr 2;refine Gw ?_;rw[yd,yd,c1,c2,hpart,e26,kG];simp[yD,mx]
  ·rintro σ H' ⟨a,b,c',d,rfl,hp',hex',hf'⟩;have en:((n:Int)).toNat=n:=by omega
   rw[en]at hf';exact⟨_,rfl,k f _ H' (Ag hlen hlet (by omega) hn) (by unfold jI;rw[ai,List.length_range]) hfH hf' hp' hex'⟩
structure ak where
 a:Str
 sg:List Str
 b:Str
deriving DecidableEq
def SignAt(H:Hp)(s:Addr)(sg:Zb):Prop:=H s=some (.tup (sg.map V.str))
def iS(H:Hp)(t:Addr)(d:ak):Prop:=∃s,H t=some (.tup [.str d.a,.ref s,.str d.b])/\SignAt H s d.sg
def ik(H H':Hp):Prop:=∀b xs,H b=some (.tup xs)->H' b=some (.tup xs)
theorem iS.kt{H H':Hp}{t:Addr}{d:ak}(k:ik H H')(h:iS H t d):iS H' t d:=by
 obtain⟨s,h1,h2⟩:=h;exact⟨s,k _ _ h1,k _ _ h2⟩
theorem ca.kt{p:Addr}{H H':Hp}{xs:List V}(e:ca p H H')(hp:H p=some (.lst xs)):ik H H':=fun b ys h=>e b _ h (fun z=>by rw[z,hp]at h;cases h)
theorem ab.kt{H H':Hp}(e:ab H H'):ik H H':=fun b ys h=>e b _ h
theorem ik.trans{H H1 H2:Hp}(a:ik H H1)(b:ik H1 H2):ik H H2:=fun x xs h=>b x xs (a x xs h)
theorem eU{H:Hp}{l:Addr}{xs:List V}{o:HO}(h:H l=some (.lst xs)):ik H (upd H l o):=fun b ys e=>by
 rw[ah (fun z=>by rw[z,h]at e;cases e)];exact e
abbrev eE(H:Hp)(ts:Ze)(ds:List ak):Prop:=Paired (iS H) ts ds
theorem Paired.get{α β:Type}{R:α->β->Prop}:∀{xs:List α}{ys:List β}{i:Nat}{y:β},Paired R xs ys->ys[i]?=some y->∃x,xs[i]?=some x/\R x y
 |_,_,i,y,.nil,h=>by simp at h
 |_,_,0,y,.cons r t,h=>by simp at h;subst h;exact⟨_,rfl,r⟩
 |_,_,i+1,y,.cons r t,h=>by
  simp at h;obtain⟨x,h1,h2⟩:=Paired.get t h;exact⟨x,by simpa using h1,h2⟩
theorem Paired.getL{α β:Type}{R:α->β->Prop}:∀{xs:List α}{ys:List β}{i:Nat}{x:α},Paired R xs ys->xs[i]?=some x->∃y,ys[i]?=some y/\R x y
 |_,_,i,y,.nil,h=>by simp at h
 |_,_,0,y,.cons r t,h=>by simp at h;subst h;exact⟨_,rfl,r⟩
 |_,_,i+1,y,.cons r t,h=>by
  simp at h;obtain⟨x,h1,h2⟩:=Paired.getL t h;exact⟨x,by simpa using h1,h2⟩
theorem eE.kt{H H':Hp}{ts:Ze}{ds:List ak}(k:ik H H')(h:eE H ts ds):eE H' ts ds:=Paired.mapP h fun _ _ r=>r.kt k
theorem Ic{H:Hp}{a:Addr}{o:HO}(h:H a=some o):upd H a o=H:=by
 funext b;by_cases e:b=a
 ·subst e;rw[aa,h]
 ·rw[ah e]
def eZ(x:Str):DT:=.k (.inr x)
def DG(d:ak):DT:=.t [eZ d.a,.t (d.sg.map eZ),eZ d.b]
theorem oJ{x y:Str}(h:eZ x=eZ y):x=y:=by
 unfold eZ at h;injection h with h;injection h
theorem i8:∀{x y:Zb},x.map eZ=y.map eZ->x=y
 |[],[],_=>rfl
 |[],_::_,h=>by cases h
 |_::_,[],h=>by cases h
 |a::x,b::y,h=>by
  rw[bg,bg]at h;injection h with h1 h2;rw[oJ h1,i8 h2]
theorem Hq{x y:ak}(h:DG x=DG y):x=y:=by
 unfold DG at h;injection h with h;injection h with h1 h;injection h with h2 h;injection h with h3 h;injection h2 with h2;cases x;cases y;simp only at *;rw[oJ h1,i8 h2,oJ h3]
theorem iQ(xs:Zb):DT.depths (xs.map eZ)=0:=by
 induction xs with
 |nil=>rfl
 |cons x xs ih=>rw[bg];show max (DT.depth (eZ x)) (DT.depths _)=0;rw[ih];rfl
theorem Ci(d:ak):(DG d).depth=2:=by
 show DT.depths [eZ d.a,.t (d.sg.map eZ),eZ d.b]+1=2;show max (DT.depth (eZ d.a)) (max (DT.depths (d.sg.map eZ)+1) (max (DT.depth (eZ d.b)) 0))+1=2;rw[iQ]
 rfl
theorem DD(ds:List ak):DT.depths (ds.map DG)<=8:=by
 induction ds with
 |nil=>exact cG _
 |cons x xs ih=>rw[bg];show max (DT.depth (DG x)) (DT.depths _)<=8;rw[Ci];omega
theorem nq{K:Za}{H:Hp}:∀xs:List Str,DIns K H (xs.map eZ) (xs.map V.str)
 |[]=>by show DIns K H [] [];unfold DIns;rfl
 |x::xs=>by
  rw[bg,bg];unfold DIns;refine⟨_,_,rfl,?_,nq xs⟩;unfold eZ nI
  rfl
theorem qX{K:Za}{H:Hp}(x:Str):nI K H (eZ x) (.str x):=by unfold eZ nI;rfl
theorem bx{K:Za}{H:Hp}{s:Addr}{sg:Zb}(h:bE K H s (sg.map V.str)):nI K H (.t (sg.map eZ)) (.ref s):=by
 unfold nI;exact⟨s,_,rfl,h,nq _⟩
theorem iS.dIn{K:Za}{H:Hp}{t:Addr}{d:ak}(h:iS H t d):nI K H (DG d) (.ref t):=by
 obtain⟨s,h1,h2⟩:=h;unfold DG;unfold nI;refine⟨t,_,rfl,bE.of h1,?_⟩;unfold DIns;refine⟨_,_,rfl,qX _,?_⟩;unfold DIns;refine⟨_,_,rfl,bx (bE.of h2),?_⟩;unfold DIns;refine⟨_,_,rfl,qX _,?_⟩;unfold DIns
 rfl
theorem eE.dIns{K:Za}{H:Hp}:∀{ts:Ze}{ds:List ak},eE H ts ds->DIns K H (ds.map DG) (ts.map V.ref)
 |_,_,.nil=>by show DIns K H [] [];unfold DIns;rfl
 |_,_,.cons r t=>by
  rw[bg,bg];unfold DIns;exact⟨_,_,rfl,r.dIn,eE.dIns t⟩
theorem B8{d:ak}{ds:List ak}:DG d∈ds.map DG↔d∈ds:=by
 constructor
 ·intro h;obtain⟨x,hx,e⟩:=aL.mp h;rw[<-Hq e];exact hx
 ·exact kB
def AK(ds:List ak)(d:ak):List ak:=if d∈ds then ds else ds++[d]
inductive tI (vs:List V)(H:Hp)(Q:VK)(E:XK):Prop
 |mk (l t:Addr) (ts:Ze) (ds:List ak) (d:ak):(vs=[.ref l,.ref t])->(H l=some (.lst (ts.map V.ref)))->(eE H ts ds)->(iS H t d)->(ds.length<=1000)->(∀ts':List Addr,eE H ts' (AK ds d)->Q .non (upd H l (.lst (ts'.map V.ref))))->tI  vs H Q E
theorem Ik{K:Za}{vs:List V}{H:Hp}{Q:VK}{E:XK}(h:tI vs H Q E):CO K (be Q) (start DW vs) H:=by
 obtain⟨l,t,ts,ds,d,rfl,hl,hd,ht,hz,k⟩:=h;refine⟨_,rfl,_,rfl,DG d,ds.map DG,l,_,ht.dIn,rfl,.inl (az.of hl),hd.dIns,by rw[Ci];decide,DD ds,_,rfl,?_⟩;by_cases hm:d∈ds
 ·rw[if_pos rfl,zzr1 (B8.mpr hm)];refine bj ?_;have:=k ts (by unfold AK;rw[if_pos hm];exact hd);rw[Ic hl]at this;exact this
 ·rw[if_pos rfl,zzr0 (fun z=>hm (B8.mp z))];refine bX ?_;refine⟨_,rfl,.inl ⟨rfl,_,az.of hl⟩,_,rfl,l,_,_,rfl,rfl,hl,?_,?_⟩
  ·rw[ai,Paired.length hd];exact am hz
  ·have:=k (ts++[t]) (by unfold AK;rw[if_neg hm];exact ef hd ht);rw[ar]at this;exact this
structure DI(R:ak->Prop)(H0:Hp)(p c l:Addr)(m:Nat)(H:Hp):Prop where
 pen:gW H p c
 ds:∃ts ds,H l=some (.lst (ts.map V.ref))/\eE H ts ds/\ds.Nodup/\(∀d∈ds,R d)/\ds.length<=m
 ex:ca p H0 H
 fr:H0 l=none
 pl:p≠l
 cl:c≠l
section
variable{R:ak->Prop}{H0 H H':Hp}{p c l:Addr}{m:Nat}
theorem gW.lst{H:Hp}{p c:Addr}(h:gW H p c):∃xs,H p=some (.lst xs):=by
 obtain⟨a,r,ns,h1,_⟩:=h;exact⟨_,h1⟩
theorem DI.took(h:DI R H0 p c l m H)(hp:gW H' p c)(e:ca p H H'):DI R H0 p c l m H':=by
 obtain⟨ts,ds,h1,h2,h3⟩:=h.ds;obtain⟨xs,hx⟩:=h.pen.lst;exact⟨hp,⟨ts,ds,e _ _ h1 h.pl.symm,h2.kt (e.kt hx),h3⟩,h.ex.trans e,h.fr,h.pl,h.cl⟩
theorem DI.new(h:DI R H0 p c l m H){q:Addr}{o:HO}(hq:H q=none):DI R H0 p c l m (upd H q o) :=
 h.took (h.pen.ex (ab.new hq)) (ca.new hq)
theorem DI.up(h:DI R H0 p c l m H){n:Nat}(hn:m<=n):DI R H0 p c l n H:=by
 obtain⟨ts,ds,h1,h2,h3,h4,h5⟩:=h.ds;exact⟨h.pen,⟨ts,ds,h1,h2,h3,h4,aG h5 hn⟩,h.ex,h.fr,h.pl,h.cl⟩
theorem DI.put(h:DI R H0 p c l m H){t:Addr}{d:ak}{Q:VK}{E:XK}(ht:iS H t d)(hR:R d)(hm:m<=1000)(k:∀H',DI R H0 p c l (m+1) H'->Q .non H'):tI [.ref l,.ref t] H Q E:=by
 obtain⟨ts,ds,h1,h2,h3,h4,h5⟩:=h.ds;refine⟨l,t,ts,ds,d,rfl,h1,h2,ht,aG h5 hm,fun ts' h'=>k _ ⟨h.pen.upd h.pl h.cl,⟨ts',AK ds d,aa,h'.kt (eU h1),?_,?_,?_⟩,?_,h.fr,h.pl,h.cl⟩⟩
 ·unfold AK;split
  ·exact h3
  ·next hn =>
   rw[dw];refine⟨h3,by simp,?_⟩;intro a ha b hb e;have:b=d:=by simpa using hb
   subst this;exact hn (e▸ha)
 ·intro x hx;unfold AK at hx;split at hx
  ·exact h4 x hx
  ·rcases br.mp hx with hx|hx
   ·exact h4 x hx
   ·have:x=d:=by simpa using hx
    rw[this];exact hR
 ·unfold AK;split
  ·omega
  ·rw[aE];show ds.length+1<=m+1;omega
 ·intro b o e n;rw[ah (ae e h.fr)];exact h.ex b o e n
end
theorem gW.ne_strs{H:Hp}{p c a:Addr}{ws:Zb}(hp:gW H p c)(ha:H a=some (.lst (ws.map V.str))):a≠p:=by
 intro e;obtain⟨x,y,ns,h1,_⟩:=hp;rw[e,h1]at ha;injection ha with ha;injection ha with ha;cases ws with
 |nil=>cases ha
 |cons w ws=>injection ha with ha;cases ha
theorem sj{K:Za}{r:R2}(hr:∀x y H Q,d7 K x y H Q->r x y H Q){σ:L2.St}{H:Hp}{Q:VK}{p c a:Addr}{j:Nat}{ws:Zb}(h0:σ[0]?=some (some (.ref p)))(hj:σ[j]?=some (some (.ref a)))(hp:gW H p c)
  (ha:H a=some (.lst (ws.map V.str))) (hne:ws≠[]) (hlen:ws.length<=1000) (k:∀w∈ws,∀H',gW H' p c->ca p H H'->Q (.str w) H') :
  ∃v,σ[j]?=some (some v)/\∃v0,σ[0]?=some (some v0)/\∃v1,σ[j]?=some (some v1)/\iH K [v1] H fun y H1=>gE [v0,y] H1 (fun y H2=>r v y H2 Q) E0:=by
 have hl:0<ws.length:=by cases ws with|nil=>exact absurd rfl hne|cons _ _=>simp
 have la:(V.int ((ws.map V.str).length:Nat))=V.int (ws.length:Nat):=by rw[ai]
 have hpa:=hp.ne_strs ha;have fin:∀(x:Int) (H':Hp),0<=x->x<(ws.length:Int)->gW H' p c->ca p H H'->d7 K (.ref a) (.int x) H' Q:=by
  intro x H' x0 x1 hp' ex;obtain⟨n,rfl⟩:=mH x0;have hn:n<ws.length:=by omega
  exact⟨a,_,(n:Int),.str ws[n],rfl,rfl,az.of (ex _ _ ha hpa),aX (by simp[hn]),k _ (List.getElem_mem hn) H' hp' ex⟩
 exact⟨_,hj,_,h0,_,hj,.inl ⟨a,_,rfl,.inl (az.of ha),by rw[la];exact hJ hp (by omega) (by omega) fun x H' x0 x1 hp' ex=>hr _ _ _ _ (fin x H' x0 x1 hp' ex)⟩⟩
def Up(up:Bool)(J4:Zb)(a b:Str):Prop:=∃i j:Nat,J4[i]?=some a/\J4[j]?=some b/\(if up=true then i<j else j<i)
structure lh(J0 J2 J4:Zb)(up:Bool)(d:ak):Prop where
 a:d.a∈J4
 b:d.b∈J4
 sg:(∃w∈J0,d.sg=[("ask":Str),w])∨(∃w∈J2,d.sg=[("say":Str),w])∨(d.sg=[("still":Str)]/\Up up J4 d.a d.b)
def bb:List Str:=[("still":Str)]
structure Gb(J0 J2 J4:Zb)(d:ak):Prop where
 a:d.a∈J4
 b:d.b∈J4
 sg:(∃w∈J0,d.sg=[("ask":Str),w])∨(∃w∈J2,d.sg=[("say":Str),w])∨d.sg=bb
theorem lh.d{J0 J2 J4:Zb}{up:Bool}{d:ak}(h:lh J0 J2 J4 up d):Gb J0 J2 J4 d:=⟨h.a,h.b,h.sg.imp id (Or.imp id And.left)⟩
inductive Reach(ds:List ak)(a:Str):Str->Prop
 |one {b:Str}(h:(⟨a,bb,b⟩:ak)∈ds):Reach ds a b
 |step {b c:Str}(r:Reach ds a b) (h:(⟨b,bb,c⟩:ak)∈ds):Reach ds a c
theorem Cf{J4:Zb}(nd:J4.Nodup){i j:Nat}{a:Str}(hi:J4[i]?=some a)(hj:J4[j]?=some a):i=j:=by
 obtain⟨h1,e1⟩:=bY.mp hi;obtain⟨h2,e2⟩:=bY.mp hj;have pw:=List.pairwise_iff_getElem.mp nd;rcases Nat.lt_trichotomy i j with h|h|h
 ·exact absurd (e1.trans e2.symm) (pw i j h1 h2 h)
 ·exact h
 ·exact absurd (e2.trans e1.symm) (pw j i h2 h1 h)
theorem Up.trans{up:Bool}{J4:Zb}(nd:J4.Nodup){a b c:Str}(h1:Up up J4 a b)(h2:Up up J4 b c):Up up J4 a c:=by
 obtain⟨i,j,e1,e2,h⟩:=h1;obtain⟨j',k,e3,e4,h'⟩:=h2;have:=Cf nd e2 e3;subst this;refine⟨i,k,e1,e4,?_⟩;cases up
 ·simp at h h' ⊢;omega
 ·simp at h h' ⊢;omega
theorem Up.irr{up:Bool}{J4:Zb}(nd:J4.Nodup){a:Str}(h:Up up J4 a a):False:=by
 obtain⟨i,j,e1,e2,h⟩:=h;have:=Cf nd e1 e2;subst this;cases up
 ·simp at h
 ·simp at h
theorem Ej{J0 J2 J4:Zb}{ds:List ak}{up:Bool}(nd:J4.Nodup)(m:∀d∈ds,lh J0 J2 J4 up d){a b:Str}(h:Reach ds a b):Up up J4 a b:=by
 have edge:∀{a b:Str},(⟨a,bb,b⟩:ak)∈ds->Up up J4 a b:=by
  intro a b h;rcases(m _ h).sg with⟨w,_,e⟩|⟨w,_,e⟩|⟨_,e⟩
  ·cases e
  ·cases e
  ·exact e
 induction h with
 |one h=>exact edge h
 |step r h ih=>exact ih.trans nd (edge h)
inductive gF (vs:List V)(H:Hp)(Q:VK)(E:XK):Prop
 |mk (p c l1 l2 l3:Addr) (J0 J2 J4:Zb) (full:Int):(vs=[.ref p,.ref l1,.ref l2,.ref l3,.int full])->(gW H p c)->(H l1=some (.lst (J0.map V.str)))->(H l2=some (.lst (J2.map V.str)))->(H l3=some (.lst (J4.map V.str)))->(J0.length<=4)->(J2≠[])->(J2.length<=4)->(J4≠[])->(J4.length<=26)->(0<=full)->(full<=2)->(∀(l:Addr) (ts:Ze) (ds:List ak) (up:Bool) (H':Hp),H l=none->H' l=some (.lst (ts.map V.ref))->eE H' ts ds->ds.Nodup->(∀d∈ds,lh J0 J2 J4 up d)->ds.length<=600->gW H' p c->ca p H H'->Q (.ref l) H')->gF  vs H Q E
theorem at4{x r:Int}(x0:0<=x)(x2:x<=2)(r0:0<=r)(r4:r<4):∃j:Int,yb [V.int x,.int 1,.int 1,.int 2] r=some (.int j)/\0<=j/\j<=2:=by
 have:r=0∨r=1∨r=2∨r=3:=by omega
 rcases this with rfl|rfl|rfl|rfl
 ·exact⟨x,rfl,x0,x2⟩
 ·exact⟨1,rfl,by decide,by decide⟩
 ·exact⟨1,rfl,by decide,by decide⟩
 ·exact⟨2,rfl,by decide,by decide⟩
theorem DH(ws:Zb)(k:Nat):fU (ws.map V.str) (some (k:Int)) none=(ws.drop k).map V.str:=by
 unfold fU;rw[HT.sIx_none,HT.sIx_nat,ai,sI (by rw[fA,ai];omega),wn];by_cases h:k<=ws.length
 ·rw[wm h]
 ·rw[Nat.min_eq_right (by omega),pj (by simp),pj (by rw[ai];omega)]
theorem xT(ws:Zb)(k:Nat):fU (ws.map V.str) none (some (k:Int))=(ws.take k).map V.str:=by
 unfold fU;rw[HT.sIx_none,HT.sIx_nat,ai,sK,Nat.sub_zero,wo,List.take_eq_take_iff,ai];omega
theorem FP{K:Za}{H:Hp}{a:Addr}{ws:Zb}(h:az K H a (ws.map V.str)):nI K H (.s (ws.map eZ)) (.ref a):=by
 unfold nI;exact⟨a,_,rfl,h,nq _⟩
theorem Ho{K:Za}{H:Hp}{a:Addr}(h:az K H a []):nI K H (.s []) (.ref a):=by
 unfold nI;refine⟨a,_,rfl,h,?_⟩;unfold DIns
 rfl
inductive DdI(G:ak->Prop)(H:Hp)(p c l l1 l2 l3:Addr)(full dn:Int)(i:Nat)(σ:L2.St)(H':Hp):Prop
 |mk (a7 a8 a9 a10 a11 a12:Option V):σ=[some (.ref p),some (.ref l1),some (.ref l2),some (.ref l3),some (.int full),some (.ref l),some (.int dn),a7,a8,a9,a10,a11,a12]->DI G H p c l (11 * i) H'->DdI G H p c l l1 l2 l3 full dn i σ H'
theorem u6{K:Za}{vs:List V}{H:Hp}{Q:VK}{E:XK}(h:gF vs H Q E):pO K gE tI (be Q) (start qx vs) H:=by
 obtain⟨p,c,l1,l2,l3,J0,J2,J4,full,rfl,hp,h1,h2,h3,ha,hs0,hs,hr0,hr,f0,f2,k⟩:=h;have n1:=hp.ne_strs h1;have n2:=hp.ne_strs h2;have n3:=hp.ne_strs h3;refine⟨(by show 0<=aj;decide),fun l hl=>?_⟩;have hpl:=hp.nep hl;have hcl:=hp.nec hl;refine⟨_,rfl,hJ (hp.ex (ab.new hl)) (by decide) (by decide) fun dn H1 d0 d1 hp1 ex1=>?_⟩;generalize hG:lh J0 J2 J4 (decide (dn=0))=G;have base:DI G H p c l 0 H1:=⟨hp1,⟨[],[],ex1 _ _ aa hpl.symm,.nil,sR,by simp,cG _⟩,(ca.new hl).trans ex1,hl,hpl,hcl⟩;refine⟨_,rfl,l3,rfl,⟨_,az.of (base.ex _ _ h3 n3)⟩,?_⟩;refine jy (xs:=J4.map V.str) (DdI G H p c l l1 l2 l3 full dn)
  ⟨_,_,_,_,_,_,rfl,base⟩ (fun i σ H' _ ⟨_,_,_,_,_,_,_,D⟩=>az.of (D.ex _ _ h3 n3)) ?_ ?_
 ·rintro i x σ H' t hi ⟨a7,a8,a9,a10,a11,a12,rfl,D⟩ ht;obtain⟨room,hroom,rfl⟩:∃room,J4[i]?=some room/\x=V.str room:=by
   rw[de]at hi;cases q:J4[i]? with
   |none=>rw[q]at hi;cases hi
   |some r=>rw[q]at hi;exact⟨r,rfl,(ff hi).symm⟩
  have hiL:i<J4.length:=(bY.mp hroom).1;have hmem:room∈J4:=cc hroom;refine⟨t,_,rfl,bE.of aa,rfl,_,_,rfl,_,_,rfl,rfl,?_⟩;have D1:=D.new ht (o:=.tup [.int i,.str room]);refine⟨(by show 4<=aj;decide),fun q hq=>⟨_,rfl,hJ (D1.new hq).pen (by decide) (by decide) fun r H2 r0 r1 hp2 ex2=>?_⟩⟩;obtain⟨j,hj,j0,j2⟩:=at4 (x:=0) (by decide) (by decide) r0 r1;have D2:=(D1.new hq).took hp2 ex2;refine⟨q,_,_,_,rfl,rfl,az.of (ex2 q _ aa (D1.pen.nep hq).symm),hj,j,rfl,by omega,by omega,?_⟩;refine jx (lo:=0) (n:=j.toNat) (fun i' σ H''=>∃a9 a10:Option V,σ=[some (.ref p),some (.ref l1),some (.ref l2),some (.ref l3),some (.int full),some (.ref l),some (.int dn),some (.int i),some (.str room),a9,a10,a11,a12]/\DI G H p c l (11 * i+i') H'')
   ⟨_,_,rfl,D2⟩ ?_ ?_
  ·rintro i' σ H3 hi' ⟨a9,a10,rfl,D3⟩;refine sj (fun _ _ _ _ h=>h) rfl rfl D3.pen (D3.ex _ _ h2 n2) hs0 (by omega) fun w hw H4 hp4 ex4=>?_;have D4:=D3.took hp4 ex4;refine⟨(by show 2<=aj;decide),fun sg hsg=>?_⟩;have D5:=D4.new hsg (o:=.tup [.str "say",.str w]);refine⟨_,rfl,_,rfl,_,rfl,sj (fun _ _ _ _ h=>h) rfl rfl D5.pen (D5.ex _ _ h3 n3) hr0 (by omega) fun w2 hw2 H6 hp6 ex6=>?_⟩;have D6:=D5.took hp6 ex6;refine⟨(by show 3<=aj;decide),fun dr hdr=>?_⟩;have D7:=D6.new hdr (o:=.tup [.str room,.ref sg,.str w2]);have hsg6:H6 sg=some (.tup [.str "say",.str w]):=ex6 _ _ aa (D4.pen.nep hsg).symm;refine D7.put (d:=⟨room,["say",w],w2⟩) ⟨sg,aa,kp hsg6 hdr⟩ ?_ (by omega) fun H8 D8=>⟨_,_,rfl,D8⟩;rw[<-hG];exact⟨hmem,hw2,.inr (.inl ⟨w,hw,rfl⟩)⟩
  rintro σ H3 ⟨a9,a10,rfl,D3'⟩;have D3:DI G H p c l (11 * i+2) H3:=D3'.up (by omega);clear D3';refine⟨_,rfl,l1,rfl,⟨_,az.of (D3.ex _ _ h1 n1)⟩,?_⟩;refine cr (xs:=J0.map V.str) (fun i' σ H''=>∃a9 a11:Option V,σ=[some (.ref p),some (.ref l1),some (.ref l2),some (.ref l3),some (.int full),some (.ref l),some (.int dn),some (.int i),some (.str room),a9,a10,a11,a12]/\DI G H p c l (11 * i+2+2 * i') H'')
   ⟨_,_,rfl,D3⟩ (fun i σ H' _ ⟨_,_,_,D⟩=>az.of (D.ex _ _ h1 n1)) ?_ ?_
  ·rintro i' x σ H4 hi' ⟨a9,a11,rfl,D4⟩;obtain⟨ask,hask,rfl⟩:∃ask,J0[i']?=some ask/\x=V.str ask:=by
    rw[de]at hi';cases q:J0[i']? with
    |none=>rw[q]at hi';cases hi'
    |some r=>rw[q]at hi';exact⟨r,rfl,(ff hi').symm⟩
   have hi2:i'<J0.length:=(bY.mp hask).1;have hm2:ask∈J0:=cc hask;refine⟨_,rfl,(by show 4<=aj;decide),fun q hq=>⟨_,rfl,hJ (D4.new hq).pen (by decide) (by decide) fun r H5 r0 r1 hp5 ex5=>?_⟩⟩;obtain⟨j,hj,j0,j2⟩:=at4 f0 f2 r0 r1;have D5:=(D4.new hq).took hp5 ex5;refine⟨q,_,_,_,rfl,rfl,az.of (ex5 q _ aa (D4.pen.nep hq).symm),hj,j,rfl,by omega,by omega,?_⟩;refine jx (lo:=0) (n:=j.toNat) (fun i'' σ H''=>∃a9:Option V,σ=[some (.ref p),some (.ref l1),some (.ref l2),some (.ref l3),some (.int full),some (.ref l),some (.int dn),some (.int i),some (.str room),a9,a10,some (.str ask),a12]/\DI G H p c l (11 * i+2+2 * i'+i'') H'')
    ⟨_,rfl,D5⟩ ?_ ?_
   ·rintro i'' σ H6 hi'' ⟨a9,rfl,D6⟩;refine⟨_,rfl,_,rfl,_,rfl,(by show 2<=aj;decide),fun sg hsg=>?_⟩;have D7:=D6.new hsg (o:=.tup [.str "ask",.str ask]);refine sj (fun _ _ _ _ h=>h) rfl rfl D7.pen (D7.ex _ _ h3 n3) hr0 (by omega) fun w2 hw2 H8 hp8 ex8=>?_;have D8:=D7.took hp8 ex8;refine⟨(by show 3<=aj;decide),fun dr hdr=>?_⟩;have D9:=D8.new hdr (o:=.tup [.str room,.ref sg,.str w2]);have hsg8:H8 sg=some (.tup [.str "ask",.str ask]):=ex8 _ _ aa (D6.pen.nep hsg).symm;refine D9.put (d:=⟨room,["ask",ask],w2⟩) ⟨sg,aa,kp hsg8 hdr⟩ ?_ (by omega) fun H8 D8=>⟨_,rfl,D8⟩;rw[<-hG];exact⟨hmem,hw2,.inl ⟨ask,hm2,rfl⟩⟩
   ·rintro σ H6 ⟨a9,rfl,D6⟩;exact⟨_,_,rfl,D6.up (by omega)⟩
  rintro σ H4 ⟨a9,a11,rfl,D4'⟩;have D4:DI G H p c l (11 * i+10) H4:=D4'.up (by rw[ai];omega);clear D4';have hnext:∀(H9:Hp) (a12:Option V),DI G H p c l (11 * i+11) H9->DdI G H p c l l1 l2 l3 full dn (i+1) [some (.ref p),some (.ref l1),some (.ref l2),some (.ref l3),some (.int full),some (.ref l),some (.int dn),some (.int i),some (.str room),a9,a10,a11,a12] H9:=fun H9 a12 D9=>⟨_,_,_,_,_,_,rfl,D9.up (by omega)⟩;refine⟨_,rfl,_,rfl,_,_,rfl,rfl,_,rfl,l3,_,rfl,az.of (D4.ex _ _ h3 n3),fun q1 hq1=>?_⟩;have D5:=D4.new hq1 (o:=.lst (fU (J4.map V.str) (some ((i:Int)+1)) none));refine⟨_,rfl,_,rfl,_,rfl,l3,_,rfl,az.of (D5.ex _ _ h3 n3),fun q2 hq2=>?_⟩;have e1:fU (J4.map V.str) (some ((i:Int)+1)) none=(J4.drop (i+1)).map V.str:=DH J4 (i+1);rw[xT];have D6:=D5.new hq2 (o:=.lst ((J4.take i).map V.str));refine⟨(by show 2<=aj;decide),fun q3 hq3=>?_⟩;have D7:=D6.new hq3 (o:=.lst [.ref q1,.ref q2]);obtain⟨lt,q,hq,hlt,hgood⟩:∃(lt:Zb) (q:Addr),yb [V.ref q1,.ref q2] dn=some (.ref q) /\
    upd (upd (upd H4 q1 (.lst (fU (J4.map V.str) (some ((i:Int)+1)) none))) q2 (.lst ((J4.take i).map V.str))) q3 (.lst [.ref q1,.ref q2]) q=some (.lst (lt.map V.str))/\lt.length<=26 /\
    ∀w∈lt,w∈J4/\Up (decide (dn=0)) J4 room w:=by
   have:dn=0∨dn=1:=by omega
   rcases this with rfl|rfl
   ·refine⟨J4.drop (i+1),q1,rfl,?_,by rw[fA];omega,fun w hw=>⟨wk hw,?_⟩⟩
    ·refine(kp (kp aa hq2) hq3).trans ?_;rw[e1]
    ·obtain⟨n,hn⟩:=List.getElem?_of_mem hw;rw[List.getElem?_drop]at hn;exact⟨i,i+1+n,hroom,hn,by rw[if_pos (by decide)];omega⟩
   ·refine⟨J4.take i,q2,rfl,?_,by rw[aM];omega,fun w hw=>⟨fL hw,?_⟩⟩
    ·exact kp aa hq3
    ·obtain⟨n,hn⟩:=List.getElem?_of_mem hw;have hnl:n<i:=by
      have:=(bY.mp hn).1;rw[aM]at this;omega
     rw[List.getElem?_take_of_lt hnl]at hn;exact⟨i,n,hroom,hn,by rw[if_neg (by decide)];omega⟩
  refine⟨_,rfl,q3,_,_,_,rfl,rfl,az.of aa,hq,?_⟩;generalize upd (upd (upd H4 q1 (.lst (fU (J4.map V.str) (some ((i:Int)+1)) none))) q2 (.lst ((J4.take i).map V.str))) q3 (.lst [.ref q1,.ref q2])=H7 at D7 hlt ⊢;refine⟨_,rfl,(by show 0<=aj;decide),fun e he=>⟨.s (lt.map eZ),.s [],FP (az.of (kp hlt he)),Ho (az.of aa),?_,by decide,_,rfl,?_⟩⟩
  ·show DT.depths (lt.map eZ)+1<=8;rw[iQ];decide
  have D8:=D7.new he (o:=.lst []);by_cases hz:lt=[]
  ·have ez:(!decide (DT.s (lt.map eZ)=DT.s []))=false:=by rw[hz,zzr1 (by rfl)];rfl
   rw[ez];exact bj (bj (hnext _ _ (D8.up (by omega))))
  ·have ez:(!decide (DT.s (lt.map eZ)=DT.s []))=true:=by
    rw[zzr0 (fun z=>hz (i8 (y:=[]) (by injection z)))];rfl
   rw[ez];refine bX ?_;refine⟨_,rfl,hJ D8.pen (by decide) (by decide) fun r H9 r0 r1 hp9 ex9=>⟨rfl,_,rfl,?_⟩⟩;have D9:=D8.took hp9 ex9;refine k3 (fun _=>?_) (fun _=>hnext _ _ (D9.up (by omega)));refine⟨_,rfl,_,rfl,(by show 1<=aj;decide),fun sg hsg=>?_⟩;have D10:=D9.new hsg (o:=.tup [.str "still"]);have hlt10:upd H9 sg (.tup [.str "still"]) q=some (.lst (lt.map V.str)):=kp (ex9 _ _ (kp hlt he) (D8.pen.ne_strs (kp hlt he))) hsg;refine sj (fun _ _ _ _ h=>.inl h) rfl rfl D10.pen hlt10 hz (by omega) fun w2 hw2 H11 hp11 ex11=>?_;have D11:=D10.took hp11 ex11;refine⟨(by show 3<=aj;decide),fun dr hdr=>?_⟩;have D12:=D11.new hdr (o:=.tup [.str room,.ref sg,.str w2]);have hsg11:H11 sg=some (.tup [.str "still"]):=ex11 _ _ aa (D9.pen.nep hsg).symm;refine D12.put (d:=⟨room,[("still":Str)],w2⟩) ⟨sg,aa,kp hsg11 hdr⟩ ?_ (by omega) fun H13 D13=>hnext _ _ D13;rw[<-hG];exact⟨hmem,(hgood.2 w2 hw2).1,.inr (.inr ⟨rfl,(hgood.2 w2 hw2).2⟩)⟩
 ·rintro σ H' ⟨a7,a8,a9,a10,a11,a12,rfl,D⟩;obtain⟨ts,ds,g1,g2,g3,g4,g5⟩:=D.ds;rw[ai]at g5;rw[<-hG]at g4;exact⟨_,rfl,k l ts ds _ H' hl g1 g2 g3 g4 (by omega) D.pen D.ex⟩
structure cJ(J0 J2 J4:Zb)(ds:List ak):Prop where
 okA:lS J0
 okS:lS J2
 apart:∀w∈J2,w∉J0
 okR:lS J4
 asks0:J0≠[]
 says0:J2≠[]
 rooms0:J4≠[]
 asks4:J0.length<=4
 says4:J2.length<=4
 rooms26:J4.length<=150
 nodup:ds.Nodup
 good:∀d∈ds,Gb J0 J2 J4 d
 few:ds.length<=1000
 noround:∀r,¬Reach ds r r
structure ny(H:Hp)(t l1 l2 l3 l4:Addr)(ts:Ze)(J0 J2 J4:Zb)(ds:List ak):Prop where
 t:H t=some (.tup [.ref l1,.ref l2,.ref l3,.ref l4])
 a1:H l1=some (.lst (J0.map V.str))
 a2:H l2=some (.lst (J2.map V.str))
 a3:H l3=some (.lst (J4.map V.str))
 a4:H l4=some (.lst (ts.map V.ref))
 ds:eE H ts ds
theorem gW.ne_refs{H:Hp}{p c a:Addr}{ts:Ze}(hp:gW H p c)(ha:H a=some (.lst (ts.map V.ref))):a≠p:=by
 intro e;obtain⟨x,y,ns,h1,_⟩:=hp;rw[e,h1]at ha;injection ha with ha;injection ha with ha;cases ts with
 |nil=>cases ha
 |cons w ws =>
  injection ha with _ ha;cases ws with
  |nil=>cases ha
  |cons w ws=>injection ha with ha;cases ha
theorem ny.ex{H H':Hp}{p c t l1 l2 l3 l4:Addr}{ts:Ze}{J0 J2 J4:Zb}{ds:List ak}(h:ny H t l1 l2 l3 l4 ts J0 J2 J4 ds)(hp:gW H p c)(e:ca p H H'):ny H' t l1 l2 l3 l4 ts J0 J2 J4 ds:=by
 obtain⟨xs,hx⟩:=hp.lst;exact⟨e.kt hx _ _ h.t,e _ _ h.a1 (hp.ne_strs h.a1),e _ _ h.a2 (hp.ne_strs h.a2),e _ _ h.a3 (hp.ne_strs h.a3),e _ _ h.a4 (hp.ne_refs h.a4),h.ds.kt (e.kt hx)⟩
theorem ny.same{H H':Hp}{t l1 l2 l3 l4:Addr}{ts:Ze}{J0 J2 J4:Zb}{ds:List ak}(h:ny H t l1 l2 l3 l4 ts J0 J2 J4 ds)(e:ab H H'):ny H' t l1 l2 l3 l4 ts J0 J2 J4 ds :=
 ⟨e _ _ h.t,e _ _ h.a1,e _ _ h.a2,e _ _ h.a3,e _ _ h.a4,h.ds.kt (ab.kt e)⟩
inductive ox (vs:List V)(H:Hp)(Q:VK)(E:XK):Prop
 |mk (p c:Addr) (most full:Int):(vs=[.ref p,.int most,.int full])->(gW H p c)->(0<most)->(most<=25)->(0<=full)->(full<=2)->(∀(t l1 l2 l3 l4:Addr) (ts:Ze) (J0 J2 J4:Zb) (ds:List ak) (H':Hp),ny H' t l1 l2 l3 l4 ts J0 J2 J4 ds->cJ J0 J2 J4 ds->J4.length<=most.toNat->ds.length<=600->gW H' p c->ca p H H'->Q (.ref t) H')->ox  vs H Q E
theorem at6{r:Int}(r0:0<=r)(r6:r<6):∃n:Nat,yb [V.int 0,.int 1,.int 1,.int 2,.int 2,.int 3] r=some (.int n)/\n<=3:=by
 have:r=0∨r=1∨r=2∨r=3∨r=4∨r=5:=by omega
 rcases this with rfl|rfl|rfl|rfl|rfl|rfl
 ·exact⟨0,rfl,by decide⟩
 ·exact⟨1,rfl,by decide⟩
 ·exact⟨1,rfl,by decide⟩
 ·exact⟨2,rfl,by decide⟩
 ·exact⟨2,rfl,by decide⟩
 ·exact⟨3,rfl,by decide⟩
theorem FS{ws:Zb}(hw:ws.length=8){n:Nat}(hn:n<=3):fU (ws.map V.str) (some 4) (some (5+(n:Int)))=((ws.drop 4).take (1+n)).map V.str:=by
 unfold fU;have s1:HT.sIx (ws.map V.str).length 0 (some 4)=min 4 (ws.map V.str).length:=HT.sIx_nat _ _ 4;have s2:HT.sIx (ws.map V.str).length (ws.map V.str).length (some (5+(n:Int)))=min (5+n) (ws.map V.str).length:=HT.sIx_nat _ _ (5+n);rw[s1,s2,ai,hw,wo,wn];have e1:min 4 8=4:=by decide
 have e2:min (5+n) 8-4=1+n:=by omega
 rw[e1,e2]
theorem EE{K:Za}{vs:List V}{H:Hp}{Q:VK}{E:XK}(h:ox vs H Q E):yO K gF oq gE xr (be Q) (start z9 vs) H:=by
 obtain⟨p,c,most,full,rfl,hp,m0,m1,f0,f2,k⟩:=h;refine⟨_,rfl,p,c,rfl,hp,fun H1 hp1 ex1=>?_⟩;refine⟨_,rfl,p,c,8,rfl,hp1,by decide,fun lw ws H2 ok len fr hl hp2 ex2=>?_⟩;have e2:=ex1.trans ex2;have nw:=hp2.ne_strs hl;refine⟨_,rfl,(by show 6<=aj;decide),fun q hq=>⟨_,rfl,hJ (hp2.ex (ab.new hq)) (by decide) (by decide) fun r H3 r0 r1 hp3 ex3=>?_⟩⟩;obtain⟨n,hn,n3⟩:=at6 r0 r1;have hl3:H3 lw=some (.lst (ws.map V.str)):=ex3 _ _ (kp hl hq) nw;refine⟨q,_,_,_,rfl,rfl,az.of (ex3 _ _ aa (hp2.nep hq).symm),hn,_,_,rfl,rfl,_,rfl,lw,_,rfl,az.of hl3,fun l1 hl1=>?_⟩;have ea:fU (ws.map V.str) none (some (1+(n:Int)))=(ws.take (1+n)).map V.str:=xT ws (1+n);rw[ea];have e3:ca p H H3:=e2.trans ((ca.new hq).trans ex3);have hp4:gW (upd H3 l1 (.lst ((ws.take (1+n)).map V.str))) p c:=hp3.ex (ab.new hl1);have e4:ca p H (upd H3 l1 (.lst ((ws.take (1+n)).map V.str))):=e3.trans (ca.new hl1);have hl4:upd H3 l1 (.lst ((ws.take (1+n)).map V.str)) lw=some (.lst (ws.map V.str)):=kp hl3 hl1;have ha4:upd H3 l1 (.lst ((ws.take (1+n)).map V.str)) l1=some (.lst ((ws.take (1+n)).map V.str)):=aa;generalize upd H3 l1 (.lst ((ws.take (1+n)).map V.str))=H4 at hp4 e4 hl4 ha4 ⊢;refine⟨_,rfl,_,rfl,(by show 6<=aj;decide),fun q hq=>⟨_,rfl,hJ (hp4.ex (ab.new hq)) (by decide) (by decide) fun r H5 r0 r1 hp5 ex5=>?_⟩⟩;obtain⟨m,hm,m3⟩:=at6 r0 r1;have hl5:H5 lw=some (.lst (ws.map V.str)):=ex5 _ _ (kp hl4 hq) nw;have ha5:H5 l1=some (.lst ((ws.take (1+n)).map V.str)):=ex5 _ _ (kp ha4 hq) (hp4.ne_strs ha4);refine⟨q,_,_,_,rfl,rfl,az.of (ex5 _ _ aa (hp4.nep hq).symm),hm,_,_,rfl,rfl,_,rfl,lw,_,rfl,az.of hl5,fun l2 hl2=>?_⟩;rw[FS len m3];have e5:ca p H H5:=e4.trans ((ca.new hq).trans ex5);have hp6:gW (upd H5 l2 (.lst (((ws.drop 4).take (1+m)).map V.str))) p c:=hp5.ex (ab.new hl2);have e6:ca p H (upd H5 l2 (.lst (((ws.drop 4).take (1+m)).map V.str))):=e5.trans (ca.new hl2);have ha6:upd H5 l2 (.lst (((ws.drop 4).take (1+m)).map V.str)) l1=some (.lst ((ws.take (1+n)).map V.str)):=kp ha5 hl2;have hb6:upd H5 l2 (.lst (((ws.drop 4).take (1+m)).map V.str)) l2=some (.lst (((ws.drop 4).take (1+m)).map V.str)):=aa;generalize upd H5 l2 (.lst (((ws.drop 4).take (1+m)).map V.str))=H6 at hp6 e6 ha6 hb6 ⊢;refine⟨_,rfl,_,rfl,_,rfl,hJ hp6 m0 (by omega) fun r H7 r0 r1 hp7 ex7=>?_⟩;obtain⟨rn,rfl⟩:=mH r0;have ha7:=ex7 _ _ ha6 (hp6.ne_strs ha6);have hb7:=ex7 _ _ hb6 (hp6.ne_strs hb6);refine⟨_,_,rfl,rfl,p,c,1+rn,rfl,hp7,by omega,fun l3 J4 H8 okr lenr fr3 hl3' hp8 ex8=>?_⟩;have ha8:=ex8 _ _ ha7 (hp7.ne_strs ha7);have hb8:=ex8 _ _ hb7 (hp7.ne_strs hb7);have hs0:(ws.drop 4).take (1+m)≠[]:=by
  intro z;have:=congrArg List.length z;rw[aM,fA,len]at this;simp at this
 have ha0:ws.take (1+n)≠[]:=by
  intro z;have:=congrArg List.length z;rw[aM,len]at this;simp at this
 have hr0:J4≠[]:=by
  intro z;rw[z]at lenr;simp at lenr;omega
 refine⟨_,rfl,_,rfl,_,rfl,_,rfl,_,rfl,p,c,l1,l2,l3,_,_,J4,full,rfl,hp8,ha8,hb8,hl3',by rw[aM];omega,hs0,by rw[aM];omega,hr0,by omega,f0,f2,fun l4 ts ds up H9 fr4 hl4' hds nod good few hp9 ex9=>?_⟩;have ha9:=ex9 _ _ ha8 (hp8.ne_strs ha8);have hb9:=ex9 _ _ hb8 (hp8.ne_strs hb8);have hc9:=ex9 _ _ hl3' (hp8.ne_strs hl3');refine⟨_,rfl,_,rfl,_,rfl,_,rfl,(by show 4<=aj;decide),fun t ht=>k t l1 l2 l3 l4 ts _ _ J4 ds _ ⟨aa,kp ha9 ht,kp hb9 ht,kp hc9 ht,kp hl4' ht,hds.kt (ab.kt (ab.new ht))⟩ ?_ ?_ few (hp9.ex (ab.new ht)) ?_⟩
 ·refine⟨⟨?_,fun w h=>ok.2 w (fL h)⟩,⟨?_,fun w h=>ok.2 w (wk (fL h))⟩,?_,okr,ha0,hs0,hr0,by rw[aM];omega,by rw[aM];omega,by omega,nod,fun d hd=>(good d hd).d,by omega,fun r z=>(Ej okr.1 good z).irr okr.1⟩
  ·exact ok.1.sublist (List.take_sublist _ _)
  ·exact ok.1.sublist ((List.take_sublist _ _).trans (List.drop_sublist _ _))
  ·intro w h1 h2;have h3:w∈ws.drop 4:=fL h1;have h4:w∈ws.take 4:=by
    have:ws.take (1+n)=(ws.take 4).take (1+n):=by rw[List.take_take];congr 1;omega
    rw[this]at h2;exact fL h2
   have:=ok.1;rw[<-List.take_append_drop 4 ws,dw]at this;exact this.2.2 w h4 w h3 rfl
 ·omega
 ·exact(((e6.trans ex7).trans ex8).trans ex9).trans (ca.new ht)
theorem cq{ws:Zb}{i:Nat}{x:V}(h:(ws.map V.str)[i]?=some x):∃w,ws[i]?=some w/\x=.str w:=by
 rw[de]at h;cases q:ws[i]? with
 |none=>rw[q]at h;cases h
 |some r=>rw[q]at h;exact⟨r,rfl,(ff h).symm⟩
theorem take_snoc{α:Type}{ws:List α}{i:Nat}{w:α}(h:ws[i]?=some w):ws.take (i+1)=ws.take i++[w]:=by
 obtain⟨hi,rfl⟩:=bY.mp h;rw[List.take_succ_eq_append_getElem hi]
def oT(w:Str):Bool:=!decide (w=("":Str)) && (decide (w.length<=8) && w.cps.toList.all fun c=>decide (c∈("abcdefghijklmnopqrstuvwxyz":Str).cps.toList))
theorem qC.b{w:Str}(h:qC w):oT w=true:=by
 unfold oT;have h1:¬(w=("":Str)):=fun e=>by
  have:=h.lo;rw[e]at this;exact absurd this (by decide +kernel)
 rw[zzr0 h1,zzr1 h.hi,Bool.not_false,sE,sE,List.all_eq_true];intro c hc;obtain⟨c1,c2⟩:=h.al c hc;refine zzr1 ?_;have:=Cw (c-97) (by omega);have e:97+(c-97)=c:=by omega
 rw[e]at this;exact cc this
inductive sp_is_name (vs:List V)(H:Hp)(Q:VK)(E:XK):Prop
 |mk (w:Str):(vs=[.str w])->(w.length<=1000)->(∀H',ab H H'->Q (.bl (oT w)) H')->sp_is_name  vs H Q E
theorem AF{K:Za}{vs:List V}{H:Hp}{Q:VK}{E:XK}(h:sp_is_name vs H Q E):CT K (be Q) (start D0 vs) H:=by
 obtain⟨w,rfl,hz,k⟩:=h;refine⟨_,rfl,rfl,_,rfl,?_⟩;have ed:(!decide (V.str w=V.str ("":Str)))=!decide (w=("":Str)):=by
  congr 1;by_cases e:w=("":Str)
  ·rw[zzr1 e,zzr1 (by rw[e])]
  ·rw[zzr0 e,zzr0 (fun z=>e (by injection z))]
 rw[ed];refine k3 (fun h1=>?_) (fun h1=>?_)
 ·refine⟨_,rfl,.inr ⟨w,rfl,c6 (am hz),_,_,rfl,rfl,_,rfl,?_⟩⟩;refine k3 (fun h2=>?_) (fun h2=>?_)
  ·refine⟨_,rfl,w,rfl,fun l hl=>?_⟩;refine FT (fun i vs H'=>vs=((w.cps.toList.take i).map fun c=>V.bl (decide (c∈("abcdefghijklmnopqrstuvwxyz":Str).cps.toList)))/\ab H H'/\H' l=some (.lst vs))
    ⟨rfl,ab.new hl,aa⟩ (fun i vs H' _ h=>h.2.2) ?_ ?_
   ·rintro vs H' ⟨rfl,hS,hl'⟩;refine⟨l,w.cps.toList.map fun c=>decide (c∈("abcdefghijklmnopqrstuvwxyz":Str).cps.toList),rfl,az.of ?_,?_⟩
    ·rw[hl',jH];have:w.cps.toList.take w.cps.size=w.cps.toList:=by
      rw[sI];simp
     rw[this]
     rfl
    ·have:=k H' hS;have h2':decide (w.length<=8)=true:=zzr1 (by have:=of_decide_eq_true h2;omega);unfold oT at this;rw[h1,h2',sE,sE]at this;rw[List.all_map];exact this
   ·rintro i vs H' c hc hi ⟨rfl,hS,hl'⟩;refine gN (pH ?_);refine⟨_,rfl,c,_,rfl,rfl,hl',?_,ni hi ⟨?_,?_,aa⟩⟩
    ·rw[ai,aM];have:w.length=w.cps.toList.length:=fk w;exact am (by omega)
    ·rw[take_snoc (by rw[<-hc];simp),ar]
     rfl
    ·intro b o e;rw[ah (ae e hl)];exact hS b o e
  ·have:=k H (ab.refl H);have h2':decide (w.length<=8)=false:=zzr0 (fun z=>h2 (zzr1 (by omega)));unfold oT at this;rw[h1,h2',sE,Bool.false_and]at this;exact this
 ·have:=k H (ab.refl H);unfold oT at this;rw[Bool.eq_false_iff.mpr h1,Bool.false_and]at this;exact this
def aP(ws:Zb):List (fw×V):=ws.foldl (fun acc w=>dz acc (.inr w) (.bl true)) []
theorem dv(ws:Zb)(w:Str):aP (ws++[w])=dz (aP ws) (.inr w) (.bl true):=by
 unfold aP;rw[List.foldl_append]
 rfl
theorem zh{κ:Type}[DecidableEq κ](kvs:List (κ×V))(k:κ)(v:V):(dz kvs k v).length<=kvs.length+1:=by
 unfold dz;split
 ·rw[ai];omega
 ·rw[aE];exact ax _
theorem jo{α:Type}(P:List α->Prop)(h0:P [])(hs:∀ws w,P ws->P (ws++[w]))(ws:List α):P ws:=by
 have:∀n (ws:List α),ws.length=n->P ws:=by
  intro n
  induction n with
  |zero=>intro ws h;rw[List.length_eq_zero_iff.mp h];exact h0
  |succ n ih =>
   intro ws h;have hne:ws≠[]:=fun z=>by rw[z]at h;cases h
   rw[<-List.dropLast_concat_getLast hne];exact hs _ _ (ih _ (by rw[List.length_dropLast,h];rfl))
 exact this _ ws rfl
theorem jY(ws:Zb):(aP ws).length<=ws.length:=by
 refine jo (fun ws=>(aP ws).length<=ws.length) (ax _) (fun ws w h=>?_) ws;show(aP (ws++[w])).length<=(ws++[w]).length;rw[dv,aE];have:=zh (aP ws) (.inr w) (.bl true);show _<=ws.length+1;omega
theorem ud(ws:Zb)(x:Str):a_ (aP ws) (.inr x)=if x∈ws then some (.bl true)else none:=by
 refine jo (fun ws=>a_ (aP ws) (.inr x)=if x∈ws then some (.bl true)else none) rfl (fun ws w h=>?_) ws
 show a_ (aP (ws++[w])) (.inr x)=_;rw[dv,iB,h];by_cases e:x=w
 ·subst e;rw[if_pos rfl,if_pos (by simp)]
 ·have e1:¬((Sum.inr x:fw)=.inr w):=fun z=>e (by injection z);rw[if_neg e1];by_cases m:x∈ws
  ·rw[if_pos m,if_pos (cL _ m)]
  ·rw[if_neg m,if_neg (fun z=>by rcases br.mp z with z|z;exact m z;exact e (by simpa using z))]
theorem eL(ws:Zb)(x:Str):(a_ (aP ws) (.inr x)).isSome=decide (x∈ws):=by
 rw[ud];by_cases m:x∈ws
 ·rw[if_pos m,zzr1 m];rfl
 ·rw[if_neg m,zzr0 m];rfl
inductive sp_as_keys(K:Za)(vs:List V)(H:Hp)(Q:VK)(E:XK):Prop
 |mk (l:Addr) (ws:Zb):(vs=[.ref l])->(az K H l (ws.map V.str))->(ws.length<=1000)->(∀d,H d=none->Q (.ref d) (upd H d (.dK (aP ws))))->sp_as_keys K vs H Q E
theorem AI{K:Za}{vs:List V}{H:Hp}{Q:VK}{E:XK}(h:sp_as_keys K vs H Q E):CU K (be Q) (start D_ vs) H:=by
 obtain⟨l,ws,rfl,hl,hz,k⟩:=h;refine fun d hd=>?_;have key:∀kvs,az K (upd H d (.dK kvs)) l (ws.map V.str):=fun kvs=>(ab.new hd).seq hl;refine⟨_,rfl,l,rfl,⟨_,key _⟩,?_⟩;refine cr (xs:=ws.map V.str) (fun i σ H'=>∃x,σ=[some (.ref l),some (.ref d),x]/\H'=upd H d (.dK (aP (ws.take i)))) ⟨_,rfl,rfl⟩ (fun i σ H' _ ⟨_,_,e⟩=>by rw[e];exact key _) ?_ ?_
 ·rintro i x σ H' hi ⟨y,rfl,rfl⟩;obtain⟨w,hw,rfl⟩:=cq hi;have hlen:(aP (ws.take i)).length<aj:=am (aG (jY _) (by rw[aM];omega));refine⟨_,rfl,_,rfl,d,_,rfl,.inl ⟨_,.inr w,aa,rfl,hlen,rfl⟩,_,rfl,?_⟩;rw[rZ,take_snoc hw,dv]
 ·rintro σ H' ⟨x,rfl,rfl⟩;rw[ai,aS];exact⟨_,rfl,k d hd⟩
def FE(most:Nat):Nat->List Str->List Str->Option Nat
 |_,_,[]=>none
 |i,ahead,n::ns=>if i=most∨n∈ahead∨oT n=false then some i else FE most (i+1) (ahead++[n]) ns
def cH(names:Zb)(most:Nat)(taken:Zb):Option Nat:=if names=[]then some 0 else FE most 0 taken names
def oV:Option Nat->V
 |none=>.non
 |some i=>.int i
inductive sp_first_wrong_name(K:Za)(vs:List V)(H:Hp)(Q:VK)(E:XK):Prop
 |mk (l t:Addr) (names taken:Zb) (most:Nat):(vs=[.ref l,.int most,.ref t])->(az K H l (names.map V.str))->(az K H t (taken.map V.str))->(names.length+taken.length<=1000)->((∀w∈names,w.length<=1000))->(∀H',ab H H'->Q (oV (cH names most taken)) H')->sp_first_wrong_name K vs H Q E
theorem qq{K:Za}{H:Hp}{Q:VK}{E:XK}{l:Addr}{ws:Zb}(hl:az K H l (ws.map V.str))(hz:ws.length<=1000)(k:∀d,H d=none->Q (.ref d) (upd H d (.dK (aP ws)))):sp_as_keys K [.ref l] H Q E:=by
 exact⟨l,ws,rfl,hl,hz,k⟩
theorem Ds{H:Hp}{Q:VK}{E:XK}{w:Str}(hz:w.length<=1000)(k:∀H',ab H H'->Q (.bl (oT w)) H'):sp_is_name [.str w] H Q E:=by
 exact⟨w,rfl,hz,k⟩
theorem l_{K:Za}{vs:List V}{H:Hp}{Q:VK}{E:XK}(h:sp_first_wrong_name K vs H Q E):mP K sp_is_name (sp_as_keys K) (be Q) (start nC vs) H:=by
 obtain⟨l,t,names,taken,most,rfl,hl,ht,hz,hw,k⟩:=h;refine⟨_,rfl,.inl ⟨l,_,rfl,.inl hl,rfl,_,rfl,?_⟩⟩;by_cases h0:names=[]
 ·subst h0;refine bX ?_;have:=k H (ab.refl H);exact this
 have e0:decide (V.int ((names.map V.str).length:Nat)=V.int 0)=false:=zzr0 (fun z=>h0 (by
  injection z with z;rw[ai]at z;exact List.length_eq_zero_iff.mp (by omega)))
 rw[e0];refine bj ?_;have hk:∀H',ab H H'->Q (oV (FE most 0 taken names)) H':=by
  unfold cH at k;rw[if_neg h0]at k;exact k
 refine⟨_,rfl,qq ht (by omega) fun d hd=>?_⟩;refine⟨_,rfl,l,rfl,⟨_,(ab.new hd).seq hl⟩,?_⟩;refine jy (xs:=names.map V.str) (fun i σ H'=>∃x y,σ=[some (.ref l),some (.int most),some (.ref t),some (.ref d),x,y]/\ab H H'/\H' d=some (.dK (aP (taken++names.take i)))/\FE most i (taken++names.take i) (names.drop i)=FE most 0 taken names)
  ⟨_,_,rfl,ab.new hd,by rw[sD,dY];exact aa,by rw[sD,dY,sK]⟩ (fun i σ H' _ ⟨_,_,_,hS,_⟩=>hS.seq hl) ?_ ?_
 ·rintro i x σ H' q hi ⟨x4,x5,rfl,hS,hd',hf⟩ hq;obtain⟨w,hw',rfl⟩:=cq hi;have hil:i<names.length:=(bY.mp hw').1;have ed:names.drop i=w::names.drop (i+1):=by
   rw[pi hil];congr 1;exact(bY.mp hw').2
  rw[ed]at hf;have hd2:upd H' q (.tup [.int i,.str w]) d=some (.dK (aP (taken++names.take i))):=kp hd' hq;have hS2:ab H (upd H' q (.tup [.int i,.str w])):=hS.trans (ab.new hq);have hww:w.length<=1000:=hw w (cc hw');refine⟨q,_,rfl,bE.of aa,rfl,_,_,rfl,_,_,rfl,rfl,?_⟩;generalize upd H' q (.tup [.int i,.str w])=H2 at hd2 hS2 ⊢;refine⟨_,rfl,_,rfl,rfl,_,rfl,?_⟩;by_cases c1:i=most
  ·have e1:decide (V.int (i:Nat)=V.int (most:Nat))=true:=zzr1 (by rw[c1]);rw[e1];refine bX (bX ?_);refine⟨_,rfl,?_⟩;have:=hk H2 hS2;rw[<-hf]at this;unfold FE at this;rw[if_pos (.inl c1)]at this;exact this
  have e1:decide (V.int (i:Nat)=V.int (most:Nat))=false:=zzr0 (fun z=>c1 (by injection z with z;omega));rw[e1];refine bj ?_;refine⟨_,rfl,_,rfl,d,_,rfl,.inl ⟨_,.inr w,.inl hd2,rfl,rfl⟩,_,rfl,?_⟩;rw[eL];by_cases c2:w∈taken++names.take i
  ·rw[zzr1 c2];refine bX (bX ?_);refine⟨_,rfl,?_⟩;have:=hk H2 hS2;rw[<-hf]at this;unfold FE at this;rw[if_pos (.inr (.inl c2))]at this;exact this
  rw[zzr0 c2];refine bj ?_;refine⟨_,rfl,Ds hww fun H3 hS3=>⟨_,rfl,?_⟩⟩;have hd3:=hS3 _ _ hd2;cases c3:oT w with
  |false =>
   refine bX ?_;refine⟨_,rfl,?_⟩;have:=hk H3 (hS2.trans hS3);rw[<-hf]at this;unfold FE at this;rw[if_pos (.inr (.inr c3))]at this;exact this
  |true =>
   refine bj ?_;have hlen:(aP (taken++names.take i)).length<aj:=am (aG (jY _) (by rw[aE,aM];omega));refine⟨_,rfl,_,rfl,d,_,rfl,.inl ⟨_,.inr w,hd3,rfl,hlen,rfl⟩,_,_,rfl,?_,?_,?_⟩
   ·intro b o e;rw[ah (ae e hd)];exact hS3 _ _ (hS2 _ _ e)
   ·rw[aa,take_snoc hw',<-eQ,dv]
   ·rw[<-hf,take_snoc hw',<-eQ]
    conv=>rhs;unfold FE
    rw[if_neg];rintro(z|z|z)
    ·exact c1 z
    ·exact c2 z
    ·rw[c3]at z;cases z
 ·rintro σ H' ⟨x,y,rfl,hS,_,hf⟩;rw[ai,sG]at hf;have:=hk H' hS;rw[<-hf]at this;exact this
theorem zN{most:Nat}:∀(ns ahead:Zb) (i:Nat),i+ns.length<=most->(ahead++ns).Nodup->(∀w∈ns,qC w)->FE most i ahead ns=none
 |[],_,_,_,_,_=>rfl
 |n::ns,ahead,i,h1,h2,h3=>by
  rw[fG]at h1;unfold FE;rw[if_neg]
  ·refine zN ns (ahead++[n]) (i+1) (by omega) (by rw[eQ];exact h2) fun w hw=>h3 w (dX _ hw)
  ·rintro(z|z|z)
   ·omega
   ·rw[dw]at h2;exact h2.2.2 n z n (dI) rfl
   ·rw[(h3 n dI).b]at z;cases z
theorem hZ{most:Nat}{ns taken:Zb}(h0:ns≠[])(h1:ns.length<=most)(h2:(taken++ns).Nodup)(h3:∀w∈ns,qC w):cH ns most taken=none:=by
 unfold cH;rw[if_neg h0];exact zN ns taken 0 (by omega) h2 h3
theorem gh{n:Nat}(h:n<=9000):n<aj:=Nat.lt_of_le_of_lt h (by decide)
def oH(x:Str):TK:=.k (some (.inr x))
def e_(sg:Zb):TK:=.t (sg.map oH)
def Cq(d:ak):TK:=.t [oH d.a,e_ d.sg,oH d.b]
theorem si{x y:Str}(h:oH x=oH y):x=y:=by
 unfold oH at h;injection h with h;injection h with h;injection h
theorem qS:∀{x y:Zb},x.map oH=y.map oH->x=y
 |[],[],_=>rfl
 |[],_::_,h=>by cases h
 |_::_,[],h=>by cases h
 |a::x,b::y,h=>by
  rw[bg,bg]at h;injection h with h1 h2;rw[si h1,qS h2]
theorem eN{x y:Zb}(h:e_ x=e_ y):x=y:=by
 unfold e_ at h;injection h with h;exact qS h
theorem Hn{x y:ak}(h:Cq x=Cq y):x=y:=by
 unfold Cq at h;injection h with h;injection h with h1 h;injection h with h2 h;injection h with h3 h;cases x;cases y;simp only at *;rw[si h1,eN h2,si h3]
theorem Ak(xs:Zb):TK.depths (xs.map oH)=0:=by
 induction xs with
 |nil=>rfl
 |cons x xs ih=>rw[bg];show max (TK.depth (oH x)) (TK.depths _)=0;rw[ih];rfl
theorem jm(sg:Zb):(e_ sg).depth=1:=by
 show TK.depths (sg.map oH)+1=1;rw[Ak]
theorem vp(d:ak):(Cq d).depth=2:=by
 show max (TK.depth (oH d.a)) (max (TK.depth (e_ d.sg)) (max (TK.depth (oH d.b)) 0))+1=2;rw[jm]
 rfl
theorem BK{H:Hp}:∀xs:List Str,TKAts H (xs.map oH) (xs.map V.str)
 |[]=>by show TKAts H [] [];unfold TKAts;rfl
 |x::xs=>by
  rw[bg,bg];unfold TKAts;refine⟨_,_,rfl,?_,BK xs⟩;unfold oH dL
  rfl
theorem wR{H:Hp}(x:Str):dL H (oH x) (.str x):=by unfold oH dL;rfl
theorem SignAt.tk{H:Hp}{s:Addr}{sg:Zb}(h:SignAt H s sg):dL H (e_ sg) (.ref s):=by
 unfold e_ dL;exact⟨s,_,rfl,h,BK _⟩
theorem iS.tk{H:Hp}{t:Addr}{d:ak}(h:iS H t d):dL H (Cq d) (.ref t):=by
 obtain⟨s,h1,h2⟩:=h;unfold Cq dL;refine⟨t,_,rfl,h1,?_⟩;unfold TKAts;refine⟨_,_,rfl,wR _,?_⟩;unfold TKAts;refine⟨_,_,rfl,SignAt.tk h2,?_⟩;unfold TKAts;refine⟨_,_,rfl,wR _,?_⟩;unfold TKAts
 rfl
section
variable{κ:Type}[DecidableEq κ]
def kh(ks:List κ):List (κ×V):=ks.foldl (fun acc k=>dz acc k (.bl true)) []
theorem nn(ws:List κ)(w:κ):kh (ws++[w])=dz (kh ws) w (.bl true):=by
 unfold kh;rw[List.foldl_append]
 rfl
theorem Dr(ws:List κ):(kh ws).length<=ws.length:=by
 refine jo (fun ws=>(kh ws).length<=ws.length) (ax _) (fun ws w h=>?_) ws;show(kh (ws++[w])).length<=(ws++[w]).length;rw[nn,aE];have:=zh (kh ws) w (.bl true);show _<=ws.length+1;omega
theorem Ft(ws:List κ)(x:κ):(a_ (kh ws) x).isSome=decide (x∈ws):=by
 refine jo (fun ws=>(a_ (kh ws) x).isSome=decide (x∈ws)) rfl (fun ws w h=>?_) ws;show(a_ (kh (ws++[w])) x).isSome=_;rw[nn,iB];by_cases e:x=w
 ·subst e;rw[if_pos rfl,zzr1 (by simp)]
  rfl
 ·rw[if_neg e,h];by_cases m:x∈ws
  ·rw[zzr1 m,zzr1 (cL _ m)]
  ·rw[zzr0 m,zzr0 (fun z=>by rcases br.mp z with z|z;exact m z;exact e (by simpa using z))]
end
theorem B7{d:ak}{ds:List ak}:Cq d∈ds.map Cq↔d∈ds:=by
 constructor
 ·intro h;obtain⟨x,hx,e⟩:=aL.mp h;rw[<-Hn e];exact hx
 ·exact kB
def nz(K:Za)(H:Hp)(v:V)(sg:Zb):Prop:=∃s,v=.ref s/\bE K H s (sg.map V.str)
theorem ab.sqT{K:Za}{H H':Hp}{a:Addr}{xs:List V}(e:ab H H')(h:bE K H a xs):bE K H' a xs:=by
 rcases h with(h|⟨o,h⟩)|h
 ·exact .inl (.inl (e _ _ h))
 ·exact .inl (.inr ⟨o,e _ _ h⟩)
 ·exact .inr h
theorem Signs.same{K:Za}{H H':Hp}(e:ab H H'){xs:List V}{sgs:List (List Str)}(h:Paired (nz K H) xs sgs):Paired (nz K H') xs sgs :=
 Paired.mapP h fun _ _ ⟨s,h1,h2⟩=>⟨s,h1,ab.sqT e h2⟩
def fB(sg:Zb):DT:=.t (sg.map eZ)
theorem o7{x y:Zb}(h:fB x=fB y):x=y:=by
 unfold fB at h;injection h with h;exact i8 h
theorem bv(sg:Zb):(fB sg).depth=1:=by
 show DT.depths (sg.map eZ)+1=1;rw[iQ]
theorem DB(sgs:List (List Str)):DT.depths (sgs.map fB)<=8:=by
 induction sgs with
 |nil=>exact cG _
 |cons x xs ih=>rw[bg];show max (DT.depth (fB x)) (DT.depths _)<=8;rw[bv];omega
theorem Signs.dIns{K:Za}{H:Hp}:∀{xs:List V}{sgs:List (List Str)},Paired (nz K H) xs sgs->DIns K H (sgs.map fB) xs
 |_,_,.nil=>by show DIns K H [] [];unfold DIns;rfl
 |_,_,.cons ⟨s,e,r⟩ t=>by
  rw[bg];unfold DIns;refine⟨_,_,rfl,?_,Signs.dIns t⟩;rw[e];exact bx r
theorem B6{d:Zb}{ds:List (List Str)}:fB d∈ds.map fB↔d∈ds:=by
 constructor
 ·intro h;obtain⟨x,hx,e⟩:=aL.mp h;rw[<-o7 e];exact hx
 ·exact kB
theorem Paired.app{α β:Type}{R:α->β->Prop}:∀{a:List α}{b:List β}{c:List α}{d:List β},Paired R a b->Paired R c d->Paired R (a++c) (b++d)
 |_,_,_,_,.nil,h=>h
 |_,_,_,_,.cons r t,h=>.cons r (Paired.app t h)
def c8(w:Str):List Str:=[("ask":Str),w]
def cu(w:Str):List Str:=[("say":Str),w]
def jz(J0 J2:Zb):List (List Str):=J0.map c8++J2.map cu++[bb]
theorem tJ{K:Za}{kw:Str}{σ:L2.St}{H:Hp}{a l:Addr}{ws:Zb}{Q:Hp->Prop}(ha:H a=some (.lst (ws.map V.str)))(hl:H l=none)(hz:ws.length<=1000)
  (k:∀(xs:List V) (H':Hp),Paired (nz K H') xs (ws.map fun w=>[kw,w])->ab H H'->H' l=some (.lst xs)->Q H') :
  dO 1 [] σ (Gf K a) U0 ic (bR (aZ (tC (.str kw)) V0)) H l Q:=by
 refine cx (xs:=ws.map V.str) (fun i vs H'=>Paired (nz K H') vs ((ws.take i).map fun w=>[kw,w])/\ab H H'/\H' l=some (.lst vs))
  ⟨.nil,ab.new hl,aa⟩ (fun i vs H' _ ⟨_,hS,h'⟩=>⟨h',az.of (hS _ _ ha)⟩) ?_ ?_
 ·rintro vs H' ⟨h1,h2,h3⟩;rw[ai,aS]at h1;exact k vs H' h1 h2 h3
 ·rintro i vs H' x hx hi ⟨h1,h2,h3⟩;obtain⟨w,hw,rfl⟩:=cq hx;refine gN (pH ?_);refine⟨_,rfl,(by show 2<=aj;decide),fun t ht=>⟨kp h3 ht,?_,ni hi ⟨?_,?_,aa⟩⟩⟩
  ·rw[Paired.length h1,ai,aM];exact am (by omega)
  ·rw[take_snoc hw,ar];have hS2:ik (upd H' t (.tup [.str kw,.str w])) (upd (upd H' t (.tup [.str kw,.str w])) l (.lst (vs++[.ref t]))):=eU (kp h3 ht);have hS3:ik H' (upd (upd H' t (.tup [.str kw,.str w])) l (.lst (vs++[.ref t]))):=(ab.kt (ab.new ht)).trans hS2;refine Paired.app (Paired.mapP h1 fun v sg ⟨s,e1,e2⟩=>⟨s,e1,?_⟩) (.cons ⟨t,rfl,bE.of (hS2 _ _ aa)⟩ .nil);rcases e2 with(e2|⟨o,e2⟩)|e2
   ·exact .inl (.inl (hS3 _ _ e2))
   ·refine .inl (.inr ⟨o,?_⟩);rw[ah (fun z=>by rw[z,h3]at e2;cases e2)];exact kp e2 ht
   ·exact .inr e2
  ·intro b o e;rw[ah (ae e hl)];exact kp (h2 _ _ e) ht
inductive sp_door_signs(K:Za)(vs:List V)(H:Hp)(Q:VK)(E:XK):Prop
 |mk (l1 l2:Addr) (J0 J2:Zb):(vs=[.ref l1,.ref l2])->(H l1=some (.lst (J0.map V.str)))->(H l2=some (.lst (J2.map V.str)))->(J0.length<=100)->(J2.length<=100)->(∀(l:Addr) (xs:List V) (H':Hp),Paired (nz K H') xs (jz J0 J2)->ab H H'->H' l=some (.lst xs)->Q (.ref l) H')->sp_door_signs K vs H Q E
theorem u7{K:Za}{st:Addr}(hst:∀H,bE K H st (bb.map V.str)){vs:List V}{H:Hp}{Q:VK}{E:XK}(h:sp_door_signs K vs H Q E):w6 K st (be Q) (start yo vs) H:=by
 obtain⟨l1,l2,J0,J2,rfl,h1,h2,z1,z2,k⟩:=h;refine⟨_,rfl,l1,rfl,⟨_,az.of h1⟩,fun a ha=>?_⟩;refine tJ h1 ha (by omega) fun xs1 H1 p1 s1 g1=>?_;refine⟨_,rfl,l2,rfl,⟨_,az.of (s1 _ _ h2)⟩,fun b hb=>?_⟩;refine tJ (s1 _ _ h2) hb (by omega) fun xs2 H2 p2 s2 g2=>?_;have len1:xs1.length<=100:=by rw[Paired.length p1,ai];exact z1
 have len2:xs2.length<=100:=by rw[Paired.length p2,ai];exact z2
 refine⟨a,b,xs1,xs2,rfl,rfl,s2 _ _ g1,g2,c6 (am (by omega)),fun c hc=>?_⟩;refine⟨(by show 1<=aj;decide),fun d hd=>?_⟩;refine⟨c,d,_,_,rfl,rfl,kp aa hd,aa,?_,fun e he=>k e _ _ ?_ ?_ aa⟩
 ·rw[aE];show _+1<=aj;exact c6 (am (by omega))
 ·have sx:ab H2 (upd (upd (upd H2 c (.lst (xs1++xs2))) d (.lst [.ref st])) e (.lst (xs1++xs2++[.ref st]))):=((ab.new hc).trans (ab.new hd)).trans (ab.new he);exact Paired.app (Paired.app (Signs.same (s2.trans sx) p1) (Signs.same sx p2)) (.cons ⟨st,rfl,hst _⟩ .nil)
 ·exact(((s1.trans s2).trans (ab.new hc)).trans (ab.new hd)).trans (ab.new he)
def Hi(J4:Zb)(sgs:List (List Str)):Nat->List ak->List ak->Option Nat
 |_,_,[]=>none
 |i,ahead,d::ds=>if i=2000∨d∈ahead∨d.a∉J4∨d.sg∉sgs∨d.b∉J4 then some i else Hi J4 sgs (i+1) (ahead++[d]) ds
inductive sp_first_wrong_door(K:Za)(vs:List V)(H:Hp)(Q:VK)(E:XK):Prop
 |mk (l l3 sl:Addr) (ts:Ze) (ds:List ak) (J4:Zb) (xs:List V) (sgs:List (List Str)):(vs=[.ref l,.ref l3,.ref sl])->(H l=some (.lst (ts.map V.ref)))->(eE H ts ds)->(H l3=some (.lst (J4.map V.str)))->(J4.length<=1000)->(H sl=some (.lst xs))->(Paired (nz K H) xs sgs)->(ds.length<=9000)->(∀H',ab H H'->Q (oV (Hi J4 sgs 0 [] ds)) H')->sp_first_wrong_door K vs H Q E
theorem bQ{ws:Ze}{i:Nat}{x:V}(h:(ws.map V.ref)[i]?=some x):∃w,ws[i]?=some w/\x=.ref w:=by
 rw[de]at h;cases q:ws[i]? with
 |none=>rw[q]at h;cases h
 |some r=>rw[q]at h;exact⟨r,rfl,(ff h).symm⟩
theorem md{K:Za}{vs:List V}{H:Hp}{Q:VK}{E:XK}(h:sp_first_wrong_door K vs H Q E):mQ K (sp_as_keys K) (be Q) (start nD vs) H:=by
 obtain⟨l,l3,sl,ts,ds,J4,xs,sgs,rfl,hl,hds,h3,hr,hsl,hsg,hz,k⟩:=h;refine⟨_,rfl,qq (az.of h3) hr fun d hd=>?_⟩;refine fun e he=>?_;have hS0:ab H (upd (upd H d (.dK (aP J4))) e (.dT [])):=(ab.new hd).trans (ab.new he);have heH:H e=none:=(ab.new hd).free he;refine⟨_,rfl,l,rfl,⟨_,az.of (hS0 _ _ hl)⟩,?_⟩;refine jy (xs:=ts.map V.ref) (fun i σ H'=>∃x y,σ=[some (.ref l),some (.ref l3),some (.ref sl),some (.ref d),some (.ref e),x,y]/\ab H H'/\H' d=some (.dK (aP J4))/\H' e=some (.dT (kh ((ds.take i).map Cq)))/\Hi J4 sgs i (ds.take i) (ds.drop i)=Hi J4 sgs 0 [] ds)
  ⟨_,_,rfl,hS0,kp aa he,aa,rfl⟩ (fun i σ H' _ ⟨_,_,_,hS,_⟩=>az.of (hS _ _ hl)) ?_ ?_
 ·rintro i x σ H' q hi ⟨x5,x6,rfl,hS,hd',he',hf⟩ hq;obtain⟨t,ht,rfl⟩:=bQ hi;obtain⟨dr,hdr,hat⟩:=Paired.getL hds ht;have hil:i<ds.length:=(bY.mp hdr).1;have ed:ds.drop i=dr::ds.drop (i+1):=by
   rw[pi hil];congr 1;exact(bY.mp hdr).2
  rw[ed]at hf;have hS2:ab H (upd H' q (.tup [.int i,.ref t])):=hS.trans (ab.new hq);have hd2:upd H' q (.tup [.int i,.ref t]) d=_:=kp hd' hq;have he2:upd H' q (.tup [.int i,.ref t]) e=_:=kp he' hq;refine⟨q,_,rfl,bE.of aa,rfl,_,_,rfl,_,_,rfl,rfl,?_⟩;generalize upd H' q (.tup [.int i,.ref t])=H2 at hd2 he2 hS2 ⊢;have hat2:=hat.kt (ab.kt hS2);have hin:me K H2 (Cq dr) (.ref t):=dL.isIn 8 (by rw[vp];decide) hat2.tk;have hd8:(Cq dr).depth<=8:=by rw[vp];decide
  obtain⟨s,ht2,hs2⟩:=hat2;have bad:(i=2000∨dr∈ds.take i∨dr.a∉J4∨dr.sg∉sgs∨dr.b∉J4)->Q (.int i) H2:=by
   intro c;have:=k H2 hS2;rw[<-hf]at this;unfold Hi at this;rw[if_pos c]at this;exact this
  refine⟨_,rfl,rfl,_,rfl,?_⟩;by_cases c1:i=2000
  ·have e1:decide (V.int (i:Nat)=V.int 2000)=true:=zzr1 (by rw[c1];rfl);rw[e1];exact bX (bX ⟨_,rfl,bad (.inl c1)⟩)
  have e1:decide (V.int (i:Nat)=V.int 2000)=false:=zzr0 (fun z=>c1 (by injection z with z;omega));rw[e1];refine bj ?_;refine⟨_,rfl,_,rfl,e,_,rfl,.inr ⟨_,Cq dr,t,.inl he2,rfl,hin,hd8,rfl⟩,_,rfl,?_⟩;rw[Ft];by_cases c2:dr∈ds.take i
  ·rw[zzr1 (B7.mpr c2)];exact bX ⟨_,rfl,bad (.inr (.inl c2))⟩
  rw[zzr0 (fun z=>c2 (B7.mp z))];refine bj ?_;refine⟨_,rfl,.inr (.inl ⟨t,_,0,_,rfl,rfl,bE.of ht2,rfl,_,rfl,d,_,rfl,.inl ⟨_,.inr dr.a,.inl hd2,rfl,rfl⟩,_,rfl,?_⟩)⟩;rw[eL];by_cases c3:dr.a∈J4;rotate_left
  ·rw[zzr0 c3];exact bX (bX ⟨_,rfl,bad (.inr (.inr (.inl c3)))⟩)
  rw[zzr1 c3];refine bj ?_;refine⟨_,rfl,.inr (.inl ⟨t,_,1,_,rfl,rfl,bE.of ht2,rfl,_,rfl,fB dr.sg,sgs.map fB,sl,xs,bx (bE.of hs2),rfl,.inl (az.of (hS2 _ _ hsl)),Signs.dIns (Signs.same hS2 hsg),by rw[bv];decide,DB _,_,rfl,?_⟩)⟩;rw[if_pos rfl];by_cases c4:dr.sg∈sgs;rotate_left
  ·rw[zzr0 (fun z=>c4 (B6.mp z))];exact bX (bX ⟨_,rfl,bad (.inr (.inr (.inr (.inl c4))))⟩)
  rw[zzr1 (B6.mpr c4)];refine bj ?_;refine⟨_,rfl,.inr (.inl ⟨t,_,2,_,rfl,rfl,bE.of ht2,rfl,_,rfl,d,_,rfl,.inl ⟨_,.inr dr.b,.inl hd2,rfl,rfl⟩,_,rfl,?_⟩)⟩;rw[eL];by_cases c5:dr.b∈J4;rotate_left
  ·rw[zzr0 c5];exact bX ⟨_,rfl,bad (.inr (.inr (.inr (.inr c5))))⟩
  rw[zzr1 c5];refine bj ?_;have hlen:(kh ((ds.take i).map Cq)).length<aj:=gh (aG (Dr _) (by rw[ai,aM];omega));refine⟨_,rfl,_,rfl,e,_,rfl,.inr ⟨_,Cq dr,t,he2,rfl,iS.tk ⟨s,ht2,hs2⟩,hd8,hlen,rfl⟩,_,_,rfl,?_,?_,?_,?_⟩
  ·intro b o q;rw[ah (ae q heH)];exact hS2 _ _ q
  ·rw[ah (fun z=>by rw[z,he2]at hd2;cases hd2)];exact hd2
  ·rw[aa,take_snoc hdr,ar];exact congrArg (fun z=>some (HO.dT z)) (nn _ _).symm
  ·rw[<-hf,take_snoc hdr]
   conv=>rhs;unfold Hi
   rw[if_neg];rintro(z|z|z|z|z)
   ·exact c1 z
   ·exact c2 z
   ·exact z c3
   ·exact z c4
   ·exact z c5
 ·rintro σ H' ⟨x,y,rfl,hS,_,_,hf⟩;have:=k H' hS;rw[<-hf,ai,Paired.length hds,sG]at this;exact this
theorem zO{J4:Zb}{sgs:List (List Str)}:∀(ds ahead:List ak) (i:Nat),i+ds.length<=2000->(ahead++ds).Nodup->(∀d∈ds,d.a∈J4/\d.sg∈sgs/\d.b∈J4)->Hi J4 sgs i ahead ds=none
 |[],_,_,_,_,_=>rfl
 |n::ns,ahead,i,h1,h2,h3=>by
  rw[fG]at h1;unfold Hi;rw[if_neg]
  ·refine zO ns (ahead++[n]) (i+1) (by omega) (by rw[eQ];exact h2) fun w hw=>h3 w (dX _ hw)
  ·have:=h3 n dI;rintro(z|z|z|z|z)
   ·omega
   ·rw[dw]at h2;exact h2.2.2 n z n (dI) rfl
   ·exact z this.1
   ·exact z this.2.1
   ·exact z this.2.2
inductive sp_need_none (vs:List V)(H:Hp)(Q:VK)(E:XK):Prop
 |mk (x:V):(vs=[x,.non])->(Q .non H)->sp_need_none  vs H Q E
theorem xx{K:Za}{vs:List V}{H:Hp}{Q:VK}{E:XK}(h:sp_need_none vs H Q E):yJ K (be Q) (start z0 vs) H:=by
 obtain⟨x,rfl,k⟩:=h;refine⟨_,rfl,_,rfl,?_⟩;have e:(!decide (V.non=V.non))=false:=by rw[zzr1 rfl];rfl
 rw[e];exact bj k
structure Lists(H:Hp)(l1 l2 l3 l4:Addr)(ts:Ze)(J0 J2 J4:Zb)(ds:List ak):Prop where
 a1:H l1=some (.lst (J0.map V.str))
 a2:H l2=some (.lst (J2.map V.str))
 a3:H l3=some (.lst (J4.map V.str))
 a4:H l4=some (.lst (ts.map V.ref))
 ds:eE H ts ds
theorem Lists.same{H H':Hp}{l1 l2 l3 l4:Addr}{ts:Ze}{J0 J2 J4:Zb}{ds:List ak}(h:Lists H l1 l2 l3 l4 ts J0 J2 J4 ds)(e:ab H H'):Lists H' l1 l2 l3 l4 ts J0 J2 J4 ds :=
 ⟨e _ _ h.a1,e _ _ h.a2,e _ _ h.a3,e _ _ h.a4,h.ds.kt (ab.kt e)⟩
inductive sp_need_parts (vs:List V)(H:Hp)(Q:VK)(E:XK):Prop
 |mk (l1 l2 l3 l4:Addr) (ts:Ze) (J0 J2 J4:Zb) (ds:List ak):(vs=[.ref l1,.ref l2,.ref l3,.ref l4])->(Lists H l1 l2 l3 l4 ts J0 J2 J4 ds)->(cJ J0 J2 J4 ds)->(∀H',ab H H'->Q .non H')->sp_need_parts  vs H Q E
theorem cJ.signs{J0 J2 J4:Zb}{ds:List ak}(m:cJ J0 J2 J4 ds):∀d∈ds,d.a∈J4/\d.sg∈jz J0 J2/\d.b∈J4:=by
 intro d hd;have g:=m.good d hd;refine⟨g.a,?_,g.b⟩;unfold jz;rcases g.sg with⟨w,hw,e⟩|⟨w,hw,e⟩|e
 ·rw[e];exact cL _ (cL _ (aL.mpr ⟨w,hw,rfl⟩))
 ·rw[e];exact cL _ (cZ _ (aL.mpr ⟨w,hw,rfl⟩))
 ·rw[e];exact cZ _ (by simp[bb])
theorem qa{ws:Zb}(h:lS ws):∀w∈ws,w.length<=1000:=fun w hw=>aG (h.2 w hw).hi (by decide)
theorem u3{K:Za}{vs:List V}{H:Hp}{Q:VK}{E:XK}(h:sp_need_parts vs H Q E):wV K sp_need_none (sp_first_wrong_door K) (sp_door_signs K) (sp_first_wrong_name K) (be Q) (start yi vs) H:=by
 obtain⟨l1,l2,l3,l4,ts,J0,J2,J4,ds,rfl,L,m,k⟩:=h;have w1:cH J0 4 []=none:=hZ m.asks0 m.asks4 m.okA.1 m.okA.2;have w2:cH J2 4 J0=none:=hZ m.says0 m.says4 (by
  rw[dw];exact⟨m.okA.1,m.okS.1,fun a ha b hb e=>m.apart b hb (e▸ha)⟩) m.okS.2
 have w3:cH J4 150 []=none:=hZ m.rooms0 (by have:=m.rooms26;omega) m.okR.1 m.okR.2;have w4:Hi J4 (jz J0 J2) 0 [] ds=none:=zO ds [] 0 (by have:=m.few;omega) m.nodup m.signs;have z1:=m.asks4;have z2:=m.says4;have z3:=m.rooms26;have z4:=m.few;refine⟨_,rfl,(by show 0<=aj;decide),fun e he=>⟨l1,e,J0,[],4,rfl,az.of (kp L.a1 he),az.of aa,by simp;omega,qa m.okA,fun H1 s1=>?_⟩⟩;rw[w1];refine⟨_,rfl,?_⟩;have S1:=(ab.new he).trans s1;refine⟨_,rfl,_,rfl,l2,l1,J2,J0,4,rfl,az.of (S1 _ _ L.a2),az.of (S1 _ _ L.a1),by omega,qa m.okS,fun H2 s2=>?_⟩;rw[w2];refine⟨_,rfl,?_⟩;have S2:=S1.trans s2;refine⟨_,rfl,(by show 0<=aj;decide),fun e he=>⟨l3,e,J4,[],150,rfl,az.of (kp (S2 _ _ L.a3) he),az.of aa,by simp;omega,qa m.okR,fun H3 s3=>?_⟩⟩;rw[w3];refine⟨_,rfl,?_⟩;have S3:=(S2.trans (ab.new he)).trans s3;refine⟨_,rfl,_,rfl,_,rfl,_,rfl,l1,l2,J0,J2,rfl,S3 _ _ L.a1,S3 _ _ L.a2,by omega,by omega,fun sl xs H4 hx s4 hsl=>?_⟩;have S4:=S3.trans s4;have L4:=L.same S4;refine⟨l4,l3,sl,ts,ds,J4,xs,jz J0 J2,rfl,L4.a4,L4.ds,L4.a3,by omega,hsl,hx,by omega,fun H5 s5=>?_⟩;rw[w4];exact⟨_,rfl,k H5 (S4.trans s5)⟩
section
variable{κ ι:Type}[DecidableEq κ]{e:ι->κ}
def dJ(e:ι->κ)(ps:List (ι×Addr)):List (κ×V):=ps.map fun x=>(e x.1,V.ref x.2)
theorem lM(inj:∀x y,e x=e y->x=y){i:ι}:∀{ps:List (ι×Addr)},i∉ps.map (·.1)->a_ (dJ e ps) (e i)=none
 |[],_=>rfl
 |x::ps,h=>by
  rw[bg,cy]at h;show a_ ((e x.1,V.ref x.2)::dJ e ps) (e i)=none;rw[cS (fun z=>h (.inl (inj _ _ z).symm))];exact lM inj (fun z=>h (.inr z))
theorem eK(inj:∀x y,e x=e y->x=y){i:ι}{a:Addr}:∀{ps:List (ι×Addr)},(ps.map (·.1)).Nodup->(i,a)∈ps->a_ (dJ e ps) (e i)=some (.ref a)
 |[],_,h=>by cases h
 |x::ps,nd,h=>by
  rw[bg,nM]at nd;show a_ ((e x.1,V.ref x.2)::dJ e ps) (e i)=_;rcases cy.mp h with h|h
  ·rw[<-h];exact df rfl
  ·rw[cS (fun z=>nd.1 (by rw[inj _ _ z];exact aL.mpr ⟨_,h,rfl⟩))];exact eK inj nd.2 h
theorem vF(ps:List (ι×Addr))(i:ι)(a:Addr):dJ e (ps++[(i,a)])=dJ e ps++[(e i,.ref a)]:=by
 unfold dJ;rw[ar]
 rfl
end
structure DL{ι:Type}(H0 H:Hp)(d:Addr)(ps:List (ι×Addr)):Prop where
 nd:(ps.map (·.1)).Nodup
 na:(ps.map (·.2)).Nodup
 fr:∀x∈ps,H0 x.2=none
 frd:H0 d=none
 ned:∀x∈ps,x.2≠d
 same:ab H0 H
theorem DL.snoc{ι:Type}{H0 H H':Hp}{d:Addr}{ps:List (ι×Addr)}{i:ι}{a:Addr}(h:DL H0 H d ps)(hi:i∉ps.map (·.1))(ha:∀x∈ps,x.2≠a)(fr:H0 a=none)(nd:a≠d)(s:ab H0 H'):DL H0 H' d (ps++[(i,a)]):=by
 refine⟨?_,?_,?_,h.frd,?_,s⟩
 ·rw[ar,dw];refine⟨h.nd,by simp,fun x hx y hy e=>?_⟩;have:y=i:=by simpa using hy
  exact hi (by rw[<-this,<-e];exact hx)
 ·rw[ar,dw];refine⟨h.na,by simp,fun x hx y hy e=>?_⟩;have:y=a:=by simpa using hy
  obtain⟨z,hz,rfl⟩:=aL.mp hx;exact ha z hz (e.trans this)
 ·intro x hx;rcases br.mp hx with hx|hx
  ·exact h.fr x hx
  ·have:x=(i,a):=by simpa using hx
   rw[this];exact fr
 ·intro x hx;rcases br.mp hx with hx|hx
  ·exact h.ned x hx
  ·have:x=(i,a):=by simpa using hx
   rw[this];exact nd
theorem Fm{ι:Type}:∀{ps:List (ι×Addr)},(ps.map (·.2)).Nodup->∀{x y:ι×Addr},x∈ps->y∈ps->x.2=y.2->x=y
 |[],_,x,_,h,_,_=>by cases h
 |p::ps,nd,x,y,hx,hy,e=>by
  rw[bg,nM]at nd;rcases cy.mp hx with hx'|hx'<;>rcases cy.mp hy with hy'|hy'
  ·rw[hx',hy']
  ·exact absurd (aL.mpr ⟨y,hy',by rw[<-e,hx']⟩) nd.1
  ·exact absurd (aL.mpr ⟨x,hx',by rw[e,hy']⟩) nd.1
  ·exact Fm nd.2 hx' hy' e
theorem i9:∀x y:Str,(Sum.inr x:fw)=Sum.inr y->x=y:=fun x y h=>by injection h
def cw(ds:List ak)(r:Str):List ak:=ds.filter fun d=>decide (d.a=r)
inductive sp_doors_by_start (vs:List V)(H:Hp)(Q:VK)(E:XK):Prop
 |mk (l3 l4:Addr) (ts:Ze) (J4:Zb) (ds:List ak):(vs=[.ref l3,.ref l4])->(H l3=some (.lst (J4.map V.str)))->(H l4=some (.lst (ts.map V.ref)))->(eE H ts ds)->(J4.Nodup)->(J4.length<=1000)->(ds.length<=9000)->((∀d∈ds,d.a∈J4))->(∀(d:Addr) (ps:List (Str×Addr)) (H':Hp),ps.map (·.1)=J4->H' d=some (.dK (dJ Sum.inr ps))->(∀x∈ps,∃us,H' x.2=some (.lst (us.map V.ref))/\eE H' us (cw ds x.1))->ab H H'->Q (.ref d) H')->sp_doors_by_start  vs H Q E
theorem oN{K:Za}{vs:List V}{H:Hp}{Q:VK}{E:XK}(h:sp_doors_by_start vs H Q E):pQ K (be Q) (start qz vs) H:=by
 obtain⟨l3,l4,ts,J4,ds,rfl,h3,h4,hds,nod,hz,hz2,hin,k⟩:=h;refine fun d hd=>?_;refine⟨_,rfl,l3,rfl,⟨_,az.of (kp h3 hd)⟩,?_⟩;refine cr (xs:=J4.map V.str) (fun i σ H'=>∃x y,σ=[some (.ref l3),some (.ref l4),some (.ref d),x,y]/\∃ps:List (Str×Addr),ps.map (·.1)=J4.take i/\H' d=some (.dK (dJ Sum.inr ps))/\DL H H' d ps/\∀x∈ps,H' x.2=some (.lst []))
  ⟨_,_,rfl,[],rfl,aa,⟨by simp,by simp,by simp,hd,by simp,ab.new hd⟩,by simp⟩ (fun i σ H' _ ⟨_,_,_,_,_,_,D,_⟩=>az.of (D.same _ _ h3)) ?_ ?_
 ·rintro i x σ H' hi ⟨x3,x4,rfl,ps,hps,hd',D,hls⟩;obtain⟨w,hw,rfl⟩:=cq hi;have hnew:w∉ps.map (·.1):=by
   rw[hps];intro z;have:=nod;rw[<-List.take_append_drop (i+1) J4,take_snoc hw,dw]at this;have:=this.1;rw[dw]at this;exact this.2.2 w z w (by simp) rfl
  refine⟨(by show 0<=aj;decide),fun a ha=>?_⟩;have hlen:(dJ (Sum.inr:Str->fw) ps).length<aj:=am (by
   unfold dJ;rw[ai,<-ai (f:=(·.1)) (as:=ps),hps,aM];omega)
  have haH:H a=none:=D.same.free ha;have nda:a≠d:=(ae hd' ha).symm;have hneA:∀x∈ps,x.2≠a:=fun x hx=>ae (hls x hx) ha;refine⟨_,rfl,_,rfl,d,_,rfl,.inl ⟨_,.inr w,kp hd' ha,rfl,hlen,rfl⟩,_,_,rfl,ps++[(w,a)],?_,?_,?_,?_⟩
  ·rw[ar,hps,take_snoc hw];rfl
  ·rw[aa,iI _ (lM i9 hnew),vF]
  ·refine D.snoc hnew hneA haH nda ?_;intro b o q;rw[ah (ae q hd)];exact kp (D.same _ _ q) ha
  ·intro x hx;rcases br.mp hx with hx|hx
   ·rw[ah (D.ned x hx)];exact kp (hls x hx) ha
   ·have:x=(w,a):=by simpa using hx
    rw[this,ah nda];exact aa
 ·rintro σ H1 ⟨x3,x4,rfl,ps,hps,hd1,D1,hls⟩;rw[ai,aS]at hps;refine⟨_,rfl,l4,rfl,⟨_,az.of (D1.same _ _ h4)⟩,?_⟩;refine cr (xs:=ts.map V.ref) (fun i σ H'=>∃x4,σ=[some (.ref l3),some (.ref l4),some (.ref d),x3,x4]/\H' d=some (.dK (dJ Sum.inr ps))/\DL H H' d ps/\∀x∈ps,∃us,H' x.2=some (.lst (us.map V.ref))/\eE H' us (cw (ds.take i) x.1))
   ⟨_,rfl,hd1,D1,fun x hx=>⟨[],hls x hx,.nil⟩⟩ (fun i σ H' _ ⟨_,_,_,D,_⟩=>az.of (D.same _ _ h4)) ?_ ?_
  ·rintro i x σ H' hi ⟨x4,rfl,hd',D,hls⟩;obtain⟨t,ht,rfl⟩:=bQ hi;obtain⟨dr,hdr,hat⟩:=Paired.getL hds ht;have hat':=hat.kt (ab.kt D.same);have hat2:=hat';obtain⟨s,ht2,hs2⟩:=hat';have hmem:dr.a∈ps.map (·.1):=by rw[hps];exact hin dr (cc hdr)
   obtain⟨⟨r,a⟩,hra,er⟩:=aL.mp hmem;obtain rfl:r=dr.a:=er;obtain⟨us,hus,hdo⟩:=hls _ hra;have hil:i<ds.length:=(bY.mp hdr).1;have hlu:us.length<=9000:=by
    rw[Paired.length hdo];refine aG (cM _ _) ?_;rw[aM];omega
   have KT:ik H' (upd H' a (.lst (us.map V.ref++[.ref t]))):=eU hus;refine⟨_,rfl,_,rfl,.inr (.inl ⟨t,_,0,_,rfl,rfl,bE.of ht2,rfl,d,.ref a,rfl,.inl ⟨_,.inr dr.a,.inl hd',rfl,(eK i9 D.nd hra).symm⟩,.inl ⟨rfl,_,az.of hus⟩,_,rfl,a,_,_,rfl,rfl,hus,?_,_,rfl,?_,?_,?_⟩)⟩
   ·rw[ai];exact gh hlu
   ·rw[ah (D.ned _ hra).symm];exact hd'
   ·refine⟨D.nd,D.na,D.fr,D.frd,D.ned,fun b o q=>?_⟩;rw[ah (ae q (D.fr _ hra))];exact D.same _ _ q
   ·intro x hx;have hfl:∀r',cw (ds.take (i+1)) r'=cw (ds.take i) r'++(if dr.a=r' then[dr]else[]):=by
     intro r';unfold cw;rw[take_snoc hdr,iy];congr 1;by_cases c:dr.a=r'
     ·rw[if_pos c];simp[c]
     ·rw[if_neg c];simp[c]
    by_cases c:x.2=a
    ·have ex:=Fm D.na hx hra c;subst ex;refine⟨us++[t],?_,?_⟩
     ·show upd H' a _ a=_;rw[aa,ar];rfl
     ·rw[hfl];show eE _ _ (cw (ds.take i) dr.a++(if dr.a=dr.a then[dr]else[]))
      rw[if_pos rfl];exact Paired.app (hdo.kt KT) (.cons (hat2.kt KT) .nil)
    ·obtain⟨us',h1,h2⟩:=hls x hx;have hne:¬(dr.a=x.1):=fun z=>by
      have e1:=eK (e:=(Sum.inr:Str->fw)) i9 D.nd hra;have e2:=eK (e:=(Sum.inr:Str->fw)) (i:=x.1) (a:=x.2) i9 D.nd hx;rw[<-z,e1]at e2;injection e2 with e2;injection e2 with e2;exact c e2.symm
     refine⟨us',by rw[ah c];exact h1,?_⟩;rw[hfl,if_neg hne,dY];exact h2.kt KT
  ·rintro σ H' ⟨x4,rfl,hd',D,hls⟩;rw[ai,Paired.length hds,aS]at hls;exact⟨_,rfl,k d ps H' hps hd' hls D.same⟩
def k4(d:ak):Bool:=match d.sg with
 |s::_=>decide (s=("ask":Str))
 |[]=>false
inductive sp_has_asks_alone (vs:List V)(H:Hp)(Q:VK)(E:XK):Prop
 |mk (a:Addr) (us:Ze) (ds:List ak):(vs=[.ref a])->(H a=some (.lst (us.map V.ref)))->(eE H us ds)->(ds.length<=9000)->((∀d∈ds,d.sg≠[]))->(∀H',ab H H'->Q (.bl (ds.all k4)) H')->sp_has_asks_alone  vs H Q E
theorem oM{K:Za}{vs:List V}{H:Hp}{Q:VK}{E:XK}(h:sp_has_asks_alone vs H Q E):pP K (be Q) (start qy vs) H:=by
 obtain⟨a,us,ds,rfl,ha,hds,hz,hne,k⟩:=h;refine⟨_,rfl,a,rfl,⟨_,az.of ha⟩,fun l hl=>?_⟩;refine cx (xs:=us.map V.ref) (fun i vs H'=>vs=(ds.take i).map (fun d=>V.bl (k4 d))/\ab H H'/\H' l=some (.lst vs))
  ⟨rfl,ab.new hl,aa⟩ (fun i vs H' _ ⟨_,hS,h'⟩=>⟨h',az.of (hS _ _ ha)⟩) ?_ ?_
 ·rintro vs H' ⟨rfl,hS,h'⟩;rw[ai,Paired.length hds,aS]at h';refine⟨l,ds.map k4,rfl,az.of (by rw[h',jH];rfl),?_⟩;rw[List.all_map];exact k H' hS
 ·rintro i vs H' x hx hi ⟨rfl,hS,h'⟩;obtain⟨t,ht,rfl⟩:=bQ hx;obtain⟨dr,hdr,hat⟩:=Paired.getL hds ht;obtain⟨s,ht2,hs2⟩:=hat.kt (ab.kt hS);have hmem:=cc hdr;obtain⟨s0,rest,hsg⟩:∃s0 rest,dr.sg=s0::rest:=by
   cases q:dr.sg with
   |nil=>exact absurd q (hne dr hmem)
   |cons x y=>exact⟨x,y,rfl⟩
  unfold SignAt at hs2;rw[hsg]at hs2;refine gN (pH ?_);refine⟨_,rfl,.inr (.inl ⟨t,_,1,_,rfl,rfl,bE.of ht2,rfl,.inr (.inl ⟨s,_,0,.str s0,rfl,rfl,bE.of hs2,aX (j:=0) rfl,rfl,h',?_,ni hi ⟨?_,?_,aa⟩⟩)⟩)⟩
  ·rw[ai,aM];exact gh (by omega)
  ·rw[take_snoc hdr,ar];congr 1;show[V.bl _]=[V.bl _];congr 2;unfold k4;rw[hsg];show decide (V.str s0=V.str _)=decide (s0=_);by_cases c:s0=("ask":Str)
   ·rw[zzr1 c,zzr1 (by rw[c])]
   ·rw[zzr0 c,zzr0 (fun z=>c (by injection z))]
  ·intro b o e;rw[ah (ae e hl)];exact hS _ _ e
def uL(x:Str×List Str):TK:=.t [oH x.1,e_ x.2]
theorem ii:∀x y:Str×List Str,uL x=uL y->x=y:=by
 intro x y h;unfold uL at h;injection h with h;injection h with h1 h;injection h with h2 h;cases x;cases y;simp only at *;rw[si h1,eN h2]
theorem lJ(x:Str×List Str):(uL x).depth<=8:=by
 show max (TK.depth (oH x.1)) (max (TK.depth (e_ x.2)) 0)+1<=8;rw[jm];show max 0 (max 1 0)+1<=8
 decide
def bz(ds:List ak)(x:Str×List Str):List Str:=(ds.filter fun d=>decide (d.a=x.1/\d.sg=x.2)).map (·.b)
theorem xQ(ds:List ak)(d:ak)(x:Str×List Str):bz (ds++[d]) x=bz ds x++(if(d.a,d.sg)=x then[d.b]else[]):=by
 unfold bz;rw[iy,ar];congr 1;by_cases c:(d.a,d.sg)=x
 ·subst c;simp
 ·rw[if_neg c];have:¬(d.a=x.1/\d.sg=x.2):=fun z=>c (by cases x;simp only at z;rw[z.1,z.2]);simp[List.filter_cons];intro h1 h2;exact this ⟨h1,h2⟩
theorem k5{ds:List ak}{x:Str×List Str}(h:∀d∈ds,(d.a,d.sg)≠x):bz ds x=[]:=by
 unfold bz;rw[wg,List.filter_eq_nil_iff];intro d hd;have:¬(d.a=x.1/\d.sg=x.2):=fun z=>h d hd (by cases x;simp only at z;rw[z.1,z.2]);simp;intro h1 h2;exact this ⟨h1,h2⟩
theorem gU{ds:List ak}{x:Str×List Str}{b:Str}:b∈bz ds x↔(⟨x.1,x.2,b⟩:ak)∈ds:=by
 unfold bz;rw[aL];constructor
 ·rintro⟨d,hd,rfl⟩;rw[fb]at hd;obtain⟨h1,h2⟩:=hd;obtain⟨h3,h4⟩:=of_decide_eq_true h2;cases d;simp only at h3 h4;rw[<-h3,<-h4];exact h1
 ·intro h;exact⟨_,fb.mpr ⟨h,zzr1 ⟨rfl,rfl⟩⟩,rfl⟩
structure i_(H:Hp)(g:Addr)(ps:List ((Str×List Str)×Addr))(ds:List ak):Prop where
 nd:(ps.map (·.1)).Nodup
 g:H g=some (.dT (dJ uL ps))
 ls:∀x∈ps,H x.2=some (.lst ((bz ds x.1).map V.str))
 all:∀d∈ds,(d.a,d.sg)∈ps.map (·.1)
theorem i_.same{H H':Hp}{g:Addr}{ps:List ((Str×List Str)×Addr)}{ds:List ak}(h:i_ H g ps ds)(s:ab H H'):i_ H' g ps ds:=⟨h.nd,s _ _ h.g,fun x hx=>s _ _ (h.ls x hx),h.all⟩
inductive oy (vs:List V)(H:Hp)(Q:VK)(E:XK):Prop
 |mk (l4:Addr) (ts:Ze) (ds:List ak):(vs=[.ref l4])->(H l4=some (.lst (ts.map V.ref)))->(eE H ts ds)->(ds.length<=9000)->(∀(g:Addr) (ps:List ((Str×List Str)×Addr)) (H':Hp),i_ H' g ps ds->ab H H'->Q (.ref g) H')->oy  vs H Q E
theorem iF{K:Za}{vs:List V}{H:Hp}{Q:VK}{E:XK}(h:oy vs H Q E):iV K (be Q) (start iY vs) H:=by
 obtain⟨l4,ts,ds,rfl,h4,hds,hz,k⟩:=h;refine fun g hg=>?_;refine⟨_,rfl,l4,rfl,⟨_,az.of (kp h4 hg)⟩,?_⟩;refine cr (xs:=ts.map V.ref) (fun i σ H'=>∃x y z,σ=[some (.ref l4),some (.ref g),x,y,z]/\∃ps:List ((Str×List Str)×Addr),DL H H' g ps/\H' g=some (.dT (dJ uL ps))/\ps.length<=i/\(∀x∈ps,H' x.2=some (.lst ((bz (ds.take i) x.1).map V.str)))/\∀d∈ds.take i,(d.a,d.sg)∈ps.map (·.1))
  ⟨_,_,_,rfl,[],⟨by simp,by simp,by simp,hg,by simp,ab.new hg⟩,aa,by simp,by simp,by simp⟩ (fun i σ H' _ ⟨_,_,_,_,_,D,_⟩=>az.of (D.same _ _ h4)) ?_ ?_
 ·rintro i x σ H' hi ⟨x2,x3,x4,rfl,ps,D,hg',hlen,hls,hall⟩;obtain⟨t,ht,rfl⟩:=bQ hi;obtain⟨dr,hdr,hat⟩:=Paired.getL hds ht;have hil:i<ds.length:=(bY.mp hdr).1;obtain⟨s,ht2,hs2⟩:=hat.kt (ab.kt D.same);refine⟨t,_,rfl,bE.of ht2,rfl,_,_,rfl,_,_,rfl,_,_,rfl,rfl,?_⟩;refine⟨_,rfl,.inr (.inr (.inl ⟨rfl,.inr ⟨_,hg'⟩⟩)),_,rfl,_,rfl,(by show 2<=aj;decide),fun kt hkt=>⟨(by show 0<=aj;decide),fun nl hnl=>?_⟩⟩;have S2:ab H' (upd (upd H' kt (.tup [.str dr.a,.ref s])) nl (.lst [])):=(ab.new hkt).trans (ab.new hnl);have hkt2:upd (upd H' kt (.tup [.str dr.a,.ref s])) nl (.lst []) kt=some (.tup [.str dr.a,.ref s]):=kp aa hnl;have hnl2:upd (upd H' kt (.tup [.str dr.a,.ref s])) nl (.lst []) nl=some (.lst []):=aa;have hnlH':H' nl=none:=(ab.new hkt).free hnl;generalize upd (upd H' kt (.tup [.str dr.a,.ref s])) nl (.lst [])=H2 at S2 hkt2 hnl2 ⊢;have htk:dL H2 (uL (dr.a,dr.sg)) (.ref kt):=by
   unfold uL dL;refine⟨kt,_,rfl,hkt2,?_⟩;unfold TKAts;refine⟨_,_,rfl,wR _,?_⟩;unfold TKAts;refine⟨_,_,rfl,SignAt.tk (S2 _ _ hs2),?_⟩;unfold TKAts
   rfl
  have hlk:(dJ uL ps).length<aj:=gh (by unfold dJ;rw[ai];omega);have hgo:∀x,bz (ds.take (i+1)) x=bz (ds.take i) x++(if(dr.a,dr.sg)=x then[dr.b]else[]):=fun x=>by rw[take_snoc hdr,xQ]
  have hgl:∀x,(bz (ds.take i) x).length<=9000:=fun x=>by
   unfold bz;rw[ai];refine aG (cM _ _) ?_;rw[aM];omega
  refine⟨g,kt,_,uL (dr.a,dr.sg),.ref nl,rfl,rfl,S2 _ _ hg',htk,lJ _,hlk,fun v hv=>?_,fun hv=>?_⟩
  ·-- there already
   have hmem:(dr.a,dr.sg)∈ps.map (·.1):=by
    refine Classical.byContradiction fun z=>?_;rw[lM ii z]at hv;cases hv
   obtain⟨⟨r,a⟩,hra,er⟩:=aL.mp hmem;obtain rfl:r=(dr.a,dr.sg):=er;rw[eK ii D.nd hra]at hv;injection hv with hv;subst hv;have hla:=S2 _ _ (hls _ hra);refine⟨.inl ⟨rfl,_,az.of hla⟩,_,rfl,a,_,_,rfl,rfl,hla,by rw[ai];exact gh (hgl _),_,_,_,rfl,ps,⟨D.nd,D.na,D.fr,D.frd,D.ned,fun b o q=>?_⟩,?_,by omega,?_,?_⟩
   ·rw[ah (ae q (D.fr _ hra))];exact S2 _ _ (D.same _ _ q)
   ·rw[ah (D.ned _ hra).symm];exact S2 _ _ hg'
   ·intro x hx;by_cases c:x.2=a
    ·have ex:=Fm D.na hx hra c;subst ex;show upd H2 a _ a=_;rw[aa,hgo,if_pos rfl,ar];rfl
    ·have hne:¬((dr.a,dr.sg)=x.1):=fun z=>by
      have e1:=eK (e:=uL) ii D.nd hra;have e2:=eK (e:=uL) (i:=x.1) (a:=x.2) ii D.nd hx;rw[<-z,e1]at e2;injection e2 with e2;injection e2 with e2;exact c e2.symm
     rw[ah c,hgo,if_neg hne,dY];exact S2 _ _ (hls x hx)
   ·intro d hd;rw[take_snoc hdr]at hd;rcases br.mp hd with hd|hd
    ·exact hall d hd
    ·have:d=dr:=by simpa using hd
     rw[this];exact hmem
  ·-- a new list
   have hnew:(dr.a,dr.sg)∉ps.map (·.1):=by
    intro z;obtain⟨⟨r,a⟩,hra,er⟩:=aL.mp z;obtain rfl:r=(dr.a,dr.sg):=er;rw[eK ii D.nd hra]at hv;cases hv
   have hgne:nl≠g:=(ae hg' hnlH').symm;have hnl3:upd H2 g (.dT (dJ uL ps++[(uL (dr.a,dr.sg),.ref nl)])) nl=some (.lst []):=by rw[ah hgne];exact hnl2
   refine⟨.inl ⟨rfl,_,az.of hnl3⟩,_,rfl,nl,_,_,rfl,rfl,hnl3,(by show 0<aj;decide),_,_,_,rfl,ps++[((dr.a,dr.sg),nl)],?_,?_,?_,?_,?_⟩
   ·refine D.snoc hnew (fun x hx=>ae (hls x hx) hnlH') (D.same.free hnlH') hgne ?_;intro b o q;rw[ah (ae q (D.same.free hnlH')),ah (ae q hg)];exact S2 _ _ (D.same _ _ q)
   ·rw[ah hgne.symm,aa,vF]
   ·rw[aE];show _+1<=_;omega
   ·intro x hx;rcases br.mp hx with hx|hx
    ·have hne:¬((dr.a,dr.sg)=x.1):=fun z=>hnew (by rw[z];exact aL.mpr ⟨x,hx,rfl⟩);rw[ah (ae (hls x hx) hnlH'),ah (D.ned x hx),hgo,if_neg hne,dY];exact S2 _ _ (hls x hx)
    ·have:x=((dr.a,dr.sg),nl):=by simpa using hx
     subst this;have hnil:bz (ds.take i) (dr.a,dr.sg)=[]:=k5 fun d hd z=>hnew (by rw[<-z];exact hall d hd);show upd _ nl _ nl=_;rw[aa,hgo,if_pos rfl,hnil]
     rfl
   ·intro d hd;rw[ar];rw[take_snoc hdr]at hd;rcases br.mp hd with hd|hd
    ·exact cL _ (hall d hd)
    ·have:d=dr:=by simpa using hd
     rw[this];exact cZ _ (by simp)
 ·rintro σ H' ⟨x2,x3,x4,rfl,ps,D,hg',hlen,hls,hall⟩;rw[ai,Paired.length hds,aS]at hls hall;exact⟨_,rfl,k g ps H' ⟨D.nd,hg',hls,hall⟩ D.same⟩
theorem oS:∀{L R:Zb},L.Nodup->(∀y∈L,y∈R)->L.length<=R.length
 |[],_,_,_=>cG _
 |x::L,R,nd,h=>by
  rw[nM]at nd;have hx:=h x dI;have:=oS (L:=L) (R:=R.erase x) nd.2 fun y hy=>(List.mem_erase_of_ne (fun e:y=x=>nd.1 (by rw[<-e];exact hy))).mpr (h y (dX _ hy));rw[List.length_erase_of_mem hx]at this;have:0<R.length:=List.length_pos_of_mem hx;rw[fG];omega
theorem Reach.in_{ds:List ak}{a b:Str}{J4:Zb}(hr:∀d∈ds,d.b∈J4)(h:Reach ds a b):b∈J4:=by
 cases h with
 |one h=>exact hr _ h
 |step r h=>exact hr _ h
inductive xn (vs:List V)(H:Hp)(Q:VK)(E:XK):Prop
 |mk (g:Addr) (room:Str) (ps:List ((Str×List Str)×Addr)) (ds:List ak) (J4:Zb):(vs=[.ref g,.str room])->(i_ H g ps ds)->((∀d∈ds,d.b∈J4))->(J4.length<=1000)->(∀(d:Addr) (L:Zb) (H':Hp),H' d=some (.dK (aP L))->L.Nodup->(∀w,w∈L↔Reach ds room w)->H d=none->ab H H'->Q (.ref d) H')->xn  vs H Q E
structure IY(H0 H:Hp)(ds:List ak)(room:Str)(d w:Addr)(L W:Zb)(open_:Str->Prop):Prop where
 d:H d=some (.dK (aP L))
 w:H w=some (.lst (W.map V.str))
 same:ab H0 H
 nd:L.Nodup
 sound:∀y∈L,Reach ds room y
 wait:∀y∈W,y=room∨y∈L
 closed:∀y,(y=room∨y∈L)->y∉W->¬open_ y->∀c∈bz ds (y,bb),c∈L
theorem rJ{K:Za}{st:Addr}(hst:∀H,bE K H st (bb.map V.str)){vs:List V}{H:Hp}{Q:VK}{E:XK}(h:xn vs H Q E):tq K st (be Q) (start uG vs) H:=by
 obtain⟨g,room,ps,ds,J4,rfl,G,hin,hz,k⟩:=h;refine fun d hd=>?_;refine⟨_,rfl,(by show 1<=aj;decide),fun w hw=>?_⟩;have hwH:H w=none:=(ab.new hd).free hw;have hdw:d≠w:=ae aa hw;refine⟨fun m σ H'=>∃(L W:Zb) (x y:Option V),σ=[some (.ref g),some (.str room),some (.ref d),some (.ref w),x,y]/\IY H H' ds room d w L W (fun _=>False)/\m=2 * (J4.length-L.length)+W.length/\m<=2 * J4.length+1,
  ⟨_,[],[room],_,_,rfl,⟨kp aa hw,aa,(ab.new hd).trans (ab.new hw),sR,by simp,by simp,?_⟩,rfl,ax _⟩,?_⟩
 ·intro y hy hn;rcases hy with rfl|hy
  ·simp at hn
  ·cases hy
 rintro m σ H1 ⟨L,W,x4,x5,rfl,D,rfl,hbound⟩;have lenL:∀{L':Zb},L'.Nodup->(∀y∈L',Reach ds room y)->L'.length<=J4.length:=fun nd sd=>oS nd fun y hy=>(sd y hy).in_ hin;refine⟨_,rfl,.inl ⟨w,_,rfl,.inl (az.of D.w),_,_,rfl,rfl,_,rfl,?_⟩⟩;refine k3 (fun hpos=>?_) (fun hpos=>?_)
 ·have hne:W≠[]:=by
   intro z;rw[z]at hpos;exact absurd (of_decide_eq_true hpos) (by decide)
  obtain⟨W',here,rfl⟩:∃W' here,W=W'++[here]:=⟨W.dropLast,W.getLast hne,(List.dropLast_concat_getLast hne).symm⟩;have hhere:here=room∨here∈L:=D.wait here (by simp);refine⟨fun σ' H'=>∃(L' W2:Zb) (x y:Option V),σ'=[some (.ref g),some (.str room),some (.ref d),some (.ref w),x,y]/\IY H H' ds room d w L' W2 (fun _=>False)/\2 * (J4.length-L'.length)+W2.length<2 * (J4.length-L.length)+(W'++[here]).length,
   fun σ' H' ⟨L',W2,x,y,e,D',hm⟩=>⟨_,hm,L',W2,x,y,e,D',rfl,by omega⟩,?_⟩
  have hlast:((W'++[here]).map V.str)[((W'++[here]).map V.str).length-1]?=some (.str here):=by simp
  have hdrop:((W'++[here]).map V.str).dropLast=W'.map V.str:=by rw[ar];simp
  refine⟨_,rfl,.inl ⟨rfl,_,az.of D.w⟩,w,_,_,rfl,rfl,D.w,hlast,?_⟩;rw[hdrop];have hd1:upd H1 w (.lst (W'.map V.str)) d=some (.dK (aP L)):=by rw[ah hdw];exact D.d
  have hw1:upd H1 w (.lst (W'.map V.str)) w=some (.lst (W'.map V.str)):=aa;have S1:ab H (upd H1 w (.lst (W'.map V.str))):=fun b o q=>by rw[ah (ae q hwH)];exact D.same _ _ q
  generalize upd H1 w (.lst (W'.map V.str))=H2 at hd1 hw1 S1 ⊢;have G2:=G.same S1;refine⟨_,rfl,g,rfl,.inr ⟨_,.inl G2.g⟩,_,rfl,(by show 2<=aj;decide),fun kt hkt=>⟨(by show 0<=aj;decide),fun et het=>⟨a_ (dJ uL ps) (uL (here,bb)),.inr ⟨_,uL (here,bb),kt,.inl ?_,rfl,?_,lJ _,rfl⟩,?_⟩⟩⟩
  ·exact kp (kp G2.g hkt) het
  ·unfold uL me;refine⟨kt,_,rfl,bE.of (kp aa het),?_⟩;unfold TKIns;refine⟨_,_,rfl,?_,?_⟩
   ·unfold oH me;rfl
   unfold TKIns;refine⟨_,_,rfl,?_,?_⟩
   ·unfold e_ me;refine⟨st,_,rfl,hst _,?_⟩;unfold bb;show TKIns K _ [oH _] [V.str _];unfold TKIns;refine⟨_,_,rfl,?_,?_⟩
    ·unfold oH me;rfl
    unfold TKIns;rfl
   unfold TKIns;rfl
  have S3:ab H2 (upd (upd H2 kt (.tup [.str here,.ref st])) et (.tup [])):=(ab.new hkt).trans (ab.new het);have het3:upd (upd H2 kt (.tup [.str here,.ref st])) et (.tup []) et=some (.tup []):=aa;generalize upd (upd H2 kt (.tup [.str here,.ref st])) et (.tup [])=H3 at S3 het3 ⊢;have D3:IY H H3 ds room d w L W' (fun y=>y=here):=⟨S3 _ _ hd1,S3 _ _ hw1,S1.trans S3,D.nd,D.sound,fun y hy=>D.wait y (cL _ hy),fun y hy hn ho=>D.closed y hy (fun z=>by rcases br.mp z with z|z;exact hn z;exact ho (by simpa using z)) (fun z=>z)⟩;have hm3:2 * (J4.length-L.length)+W'.length<2 * (J4.length-L.length)+(W'++[here]).length:=by rw[aE];show _<_+(_+1);omega
  have fin:∀(H4:Hp) (L' W2:Zb) (x y:Option V),IY H H4 ds room d w L' W2 (fun y=>y=here)->(∀c∈bz ds (here,bb),c∈L')->2 * (J4.length-L'.length)+W2.length<2 * (J4.length-L.length)+(W'++[here]).length ->
    ∃(L' W2:Zb) (x' y':Option V),[some (V.ref g),some (.str room),some (.ref d),some (.ref w),x,y]=[some (.ref g),some (.str room),some (.ref d),some (.ref w),x',y']/\IY H H4 ds room d w L' W2 (fun _=>False)/\2 * (J4.length-L'.length)+W2.length<2 * (J4.length-L.length)+(W'++[here]).length:=by
   intro H4 L' W2 x y D4 hc hm;refine⟨L',W2,x,y,rfl,⟨D4.d,D4.w,D4.same,D4.nd,D4.sound,D4.wait,fun y hy hn _=>?_⟩,hm⟩;by_cases e:y=here
   ·rw[e];exact hc
   ·exact D4.closed y hy hn e
  by_cases hmem:(here,bb)∈ps.map (·.1)
  ·obtain⟨⟨r,a⟩,hra,er⟩:=aL.mp hmem;obtain rfl:r=(here,bb):=er;rw[eK ii G.nd hra];have hla:=G.ls _ hra;refine⟨a,rfl,.inl ⟨⟨_,az.of ((S1.trans S3) _ _ hla)⟩,?_⟩⟩;refine cr (xs:=(bz ds (here,bb)).map V.str) (fun j σ H'=>∃(L' W2:Zb) (y:Option V),σ=[some (.ref g),some (.str room),some (.ref d),some (.ref w),some (.str here),y]/\IY H H' ds room d w L' W2 (fun y=>y=here)/\(here=room∨here∈L')/\(∀c∈(bz ds (here,bb)).take j,c∈L') /\
     2 * (J4.length-L'.length)+W2.length<2 * (J4.length-L.length)+(W'++[here]).length)
    ⟨L,W',_,rfl,D3,hhere,by simp,hm3⟩ (fun j σ H' _ ⟨_,_,_,_,D',_⟩=>az.of (D'.same _ _ hla)) ?_ ?_
   ·rintro j x σ H4 hj ⟨L',W2,y,rfl,D4,hh,hc,hm⟩;obtain⟨goal,hgoal,rfl⟩:=cq hj;have hedge:(⟨here,bb,goal⟩:ak)∈ds:=gU.mp (cc hgoal);have hreach:Reach ds room goal:=by
     rcases hh with hh|hh
     ·rw[hh]at hedge;exact .one hedge
     ·exact .step (D4.sound _ hh) hedge
    have hlen':=lenL D4.nd D4.sound;refine⟨_,rfl,_,rfl,d,_,rfl,.inl ⟨_,.inr goal,.inl D4.d,rfl,rfl⟩,_,rfl,?_⟩;rw[eL];by_cases c:goal∈L'
    ·rw[zzr1 c];refine bj ⟨L',W2,_,rfl,D4,hh,?_,hm⟩;intro c' hc';rw[take_snoc hgoal]at hc';rcases br.mp hc' with h|h
     ·exact hc c' h
     ·have:c'=goal:=by simpa using h
      rw[this];exact c
    ·rw[zzr0 c];refine bX ?_;have nd':(L'++[goal]).Nodup:=by
      rw[dw];refine⟨D4.nd,by simp,fun a ha b hb e=>?_⟩;have:b=goal:=by simpa using hb
      exact c (by rw[<-this,<-e];exact ha)
     have sd':∀y∈L'++[goal],Reach ds room y:=by
      intro y hy;rcases br.mp hy with hy|hy
      ·exact D4.sound y hy
      ·have:y=goal:=by simpa using hy
       rw[this];exact hreach
     have hlen2:=lenL nd' sd';rw[aE]at hlen2;have hlen3:L'.length+1<=J4.length:=hlen2;have hWl:W2.length<=9000:=by omega
     refine⟨_,rfl,_,rfl,d,_,rfl,.inl ⟨_,.inr goal,D4.d,rfl,am (aG (jY _) (by omega)),rfl⟩,?_⟩;have hw5:upd H4 d (.dK (dz (aP L') (.inr goal) (.bl true))) w=some (.lst (W2.map V.str)):=by rw[ah hdw.symm];exact D4.w
     refine⟨_,rfl,.inl ⟨rfl,_,az.of hw5⟩,_,rfl,w,_,_,rfl,rfl,hw5,by rw[ai];exact gh hWl,L'++[goal],W2++[goal],_,rfl,⟨?_,?_,?_,nd',sd',?_,?_⟩,?_,?_,?_⟩
     ·rw[ah hdw,aa,dv]
     ·rw[aa,ar];rfl
     ·intro b o q;rw[ah (ae q hwH),ah (ae q hd)];exact D4.same _ _ q
     ·intro y hy;rcases br.mp hy with hy|hy
      ·rcases D4.wait y hy with h|h
       ·exact .inl h
       ·exact .inr (cL _ h)
      ·exact .inr (cZ _ hy)
     ·intro y hy hn ho c' hc';have hn1:y∉W2:=fun z=>hn (cL _ z);have hyg:y≠goal:=fun z=>hn (cZ _ (by simp[z]));refine cL _ (D4.closed y ?_ hn1 ho c' hc');rcases hy with hy|hy
      ·exact .inl hy
      ·rcases br.mp hy with hy|hy
       ·exact .inr hy
       ·exact absurd (by simpa using hy) hyg
     ·rcases hh with h|h
      ·exact .inl h
      ·exact .inr (cL _ h)
     ·intro c' hc';rw[take_snoc hgoal]at hc';rcases br.mp hc' with h|h
      ·exact cL _ (hc c' h)
      ·exact cZ _ h
     ·rw[aE,aE];show 2 * (J4.length-(L'.length+1))+(W2.length+1)<_;omega
   ·rintro σ H4 ⟨L',W2,y,rfl,D4,hh,hc,hm⟩;rw[ai,aS]at hc;exact fin H4 L' W2 _ _ D4 hc hm
  ·rw[lM ii hmem];refine⟨et,rfl,.inr ⟨⟨_,bE.of het3⟩,?_⟩⟩;have hnil:bz ds (here,bb)=[]:=k5 fun x hx z=>hmem (by rw[<-z];exact G.all x hx);refine Cg (xs:=[]) (fun j σ H'=>σ=[some (.ref g),some (.str room),some (.ref d),some (.ref w),some (.str here),x5]/\H'=H3) ⟨rfl,rfl⟩ (fun j σ H' _ ⟨_,e⟩=>by rw[e];exact bE.of het3) (fun j x σ H' hj=>by cases hj) ?_;rintro σ H' ⟨rfl,rfl⟩;exact fin _ L W' _ _ D3 (by rw[hnil];simp) hm3
 ·have hnil:W=[]:=by
   cases W with
   |nil=>rfl
   |cons a W=>exact absurd (zzr1 (by rw[ai,fG];omega)) hpos
  subst hnil;refine⟨_,rfl,k d L H1 D.d D.nd (fun w=>⟨D.sound w,fun hr=>?_⟩) hd D.same⟩
  induction hr with
  |one h=>exact D.closed room (.inl rfl) (by simp) (fun z=>z) _ (gU.mpr h)
  |step r h ih=>exact D.closed _ (.inr ih) (by simp) (fun z=>z) _ (gU.mpr h)
inductive sp_first_led_round (vs:List V)(H:Hp)(Q:VK)(E:XK):Prop
 |mk (l3 d:Addr) (J4:Zb) (ps:List (Str×Addr)):(vs=[.ref l3,.ref d])->(H l3=some (.lst (J4.map V.str)))->(H d=some (.dK (dJ Sum.inr ps)))->(ps.map (·.1)=J4)->(J4.Nodup)->((∀x∈ps,∃L,H x.2=some (.dK (aP L))/\x.1∉L))->(∀H',ab H H'->Q .non H')->sp_first_led_round  vs H Q E
theorem ng{K:Za}{vs:List V}{H:Hp}{Q:VK}{E:XK}(h:sp_first_led_round vs H Q E):nY K (be Q) (start pf vs) H:=by
 obtain⟨l3,d,J4,ps,rfl,h3,hd,hps,nod,hL,k⟩:=h;refine⟨_,rfl,l3,rfl,⟨_,az.of h3⟩,?_⟩;refine jy (xs:=J4.map V.str) (fun i σ H'=>∃x y,σ=[some (.ref l3),some (.ref d),x,y]/\ab H H') ⟨_,_,rfl,ab.refl H⟩ (fun i σ H' _ ⟨_,_,_,S⟩=>az.of (S _ _ h3)) ?_ ?_
 ·rintro i x σ H' t hi ⟨x2,x3,rfl,S⟩ ht;obtain⟨w,hw,rfl⟩:=cq hi;refine⟨t,_,rfl,bE.of aa,rfl,_,_,rfl,_,_,rfl,rfl,?_⟩;have S2:ab H (upd H' t (.tup [.int i,.str w])):=S.trans (ab.new ht);generalize upd H' t (.tup [.int i,.str w])=H2 at S2 ⊢;have hmem:w∈ps.map (·.1):=by rw[hps];exact cc hw
  obtain⟨⟨r,a⟩,hra,er⟩:=aL.mp hmem;obtain rfl:r=w:=er;obtain⟨L,hLa,hn⟩:=hL _ hra;refine⟨_,rfl,_,rfl,_,rfl,d,.ref a,rfl,.inl ⟨_,.inr r,.inl (S2 _ _ hd),rfl,(eK i9 (by rw[hps];exact nod) hra).symm⟩,a,_,rfl,.inl ⟨_,.inr r,.inl (S2 _ _ hLa),rfl,rfl⟩,_,rfl,?_⟩;rw[eL,zzr0 hn];exact bj ⟨_,_,rfl,S2⟩
 ·rintro σ H' ⟨x,y,rfl,S⟩;exact k H' S
abbrev lk(f:Str)(fs:List (Str×V)):Option V:=fs.lookup f
def fO(ds:List ak)(r:Str):Bool:=(cw ds r).all k4
structure bA(C:Addr)(H:Hp)(x:Addr)(J0 J2 J4:Zb)(ds:List ak):Prop where
 at_:∃(dx:Addr) (fs:List (Str×V)) (o1 o2 o3 o4 lv qu sg sl:Addr) (ts:Ze) (lps:List (Str×Addr)) (gps:List ((Str×List Str)×Addr)) (sps:List (Str×Addr)),
  H x=some (.ins C dx fs)/\lk "is_quiet" fs=none/\lk "goals" fs=none/\lk "led_from" fs=none/\lk "rooms" fs=none /\
  lk "own_asks" fs=some (.ref o1)/\lk "own_says" fs=some (.ref o2)/\lk "own_rooms" fs=some (.ref o3)/\lk "own_doors" fs=some (.ref o4) /\
  lk "leaving" fs=some (.ref lv)/\lk "quiet" fs=some (.ref qu)/\lk "sign_goals" fs=some (.ref sg)/\lk "still_led" fs=some (.ref sl) /\
  Lists H o1 o2 o3 o4 ts J0 J2 J4 ds /\
  lps.map (·.1)=J4/\H lv=some (.dK (dJ Sum.inr lps))/\(∀x∈lps,∃us,H x.2=some (.lst (us.map V.ref))/\eE H us (cw ds x.1)) /\
  H qu=some (.dK (aP (J4.filter (fO ds))))/\i_ H sg gps ds /\
  sps.map (·.1)=J4/\H sl=some (.dK (dJ Sum.inr sps))/\(∀x∈sps,∃L,H x.2=some (.dK (aP L))/\L.Nodup/\∀w,w∈L↔Reach ds x.1 w)
 ok:cJ J0 J2 J4 ds
 more:∃(dx:Addr) (fs:List (Str×V)),H x=some (.ins C dx fs)/\lk "asks" fs=none/\lk "says" fs=none/\lk "doors" fs=none/\lk "doors_from" fs=none
theorem eB(f:Str)(v:V):∀fs:List (Str×V),(cO f v fs).length<=fs.length+1
 |[]=>ax _
 | (g,x)::r=>by
  unfold cO;split
  ·exact Nat.le_succ _
  ·rw[fG,fG];have:=eB f v r;omega
theorem t9:∀(ps qs:List (Str×Addr)),((qs++ps).map (·.1)).Nodup->jg (dJ Sum.inr qs) (dJ Sum.inr ps)=dJ Sum.inr (qs++ps)
 |[],qs,_=>by rw[dY];rfl
 |p::ps,qs,nd=>by
  show jg (dz (dJ Sum.inr qs) (Sum.inr p.1) (.ref p.2)) (dJ Sum.inr ps)=_;have e:qs++p::ps=(qs++[p])++ps:=by simp
  rw[e]at nd ⊢;have hnew:p.1∉qs.map (·.1):=by
   rw[ar,ar,dw]at nd;have:=nd.1;rw[dw]at this;intro z;exact this.2.2 _ z _ (by simp) rfl
  rw[iI _ (lM i9 hnew)];have:=t9 ps (qs++[p]) nd;rw[<-this];have e2:dJ (Sum.inr:Str->fw) (qs++[p])=dJ Sum.inr qs++[(Sum.inr p.1,V.ref p.2)]:=by
   unfold dJ;rw[ar];rfl
  rw[e2]
inductive sf(C:Addr)(vs:List V)(H:Hp)(Q:VK)(E:XK):Prop
 |mk (x dx l1 l2 l3 l4:Addr) (ts:Ze) (J0 J2 J4:Zb) (ds:List ak):(vs=[.ref x,.ref l1,.ref l2,.ref l3,.ref l4])->(H x=some (.ins C dx []))->(Lists H l1 l2 l3 l4 ts J0 J2 J4 ds)->(cJ J0 J2 J4 ds)->(∀H',bA C H' x J0 J2 J4 ds->ca x H H'->Q .non H')->sf C vs H Q E
theorem Lists.exI{H H':Hp}{x C dx:Addr}{fs:List (Str×V)}{l1 l2 l3 l4:Addr}{ts:Ze}{J0 J2 J4:Zb}{ds:List ak}(h:Lists H l1 l2 l3 l4 ts J0 J2 J4 ds)(hx:H x=some (.ins C dx fs))(e:ca x H H'):Lists H' l1 l2 l3 l4 ts J0 J2 J4 ds:=by
 have ne:∀{b:Addr}{xs:List V},H b=some (.lst xs)->b≠x:=fun hb z=>by rw[z,hx]at hb;cases hb
 exact⟨e _ _ h.a1 (ne h.a1),e _ _ h.a2 (ne h.a2),e _ _ h.a3 (ne h.a3),e _ _ h.a4 (ne h.a4),h.ds.kt fun b xs hb=>e _ _ hb fun z=>by rw[z,hx]at hb;cases hb⟩
theorem ca.ktI{H H':Hp}{x C dx:Addr}{fs:List (Str×V)}(e:ca x H H')(hx:H x=some (.ins C dx fs)):ik H H':=fun b xs hb=>e _ _ hb fun z=>by rw[z,hx]at hb;cases hb
theorem ca.neI{H:Hp}{x C dx:Addr}{fs:List (Str×V)}(hx:H x=some (.ins C dx fs)){b:Addr}{xs:List V}(hb:H b=some (.lst xs)):b≠x:=fun z=>by rw[z,hx]at hb;cases hb
theorem Fl{H:Hp}{x C dx:Addr}{fs:List (Str×V)}(hx:H x=some (.ins C dx fs)){b:Addr}{kvs:List (fw×V)}(hb:H b=some (.dK kvs)):b≠x:=fun z=>by rw[z,hx]at hb;cases hb
theorem HQ{H:Hp}{x C dx:Addr}{fs:List (Str×V)}(hx:H x=some (.ins C dx fs)){b:Addr}{kvs:List (TK×V)}(hb:H b=some (.dT kvs)):b≠x:=fun z=>by rw[z,hx]at hb;cases hb
structure MC(K:Za)(C:Addr):Prop where
 cls:CF K C
 a1:dH K C "own_asks"
 a2:dH K C "own_says"
 a3:dH K C "own_rooms"
 a4:dH K C "own_doors"
 a5:dH K C "leaving"
 a6:dH K C "quiet"
 a7:dH K C "sign_goals"
 a8:dH K C "still_led"
theorem qj{H:Hp}{x C dx:Addr}{fs:List (Str×V)}(f:Str)(y:V)(hx:H x=some (.ins C dx fs)):∃H',H'=upd H x (.ins C dx (cO f y fs))/\H' x=some (.ins C dx (cO f y fs))/\ca x H H' :=
 ⟨_,rfl,aa,ca.upd _ _ _⟩
theorem b_{p:Str->Bool}{ws:Zb}{i:Nat}{w:Str}(h:ws[i]?=some w):(ws.take (i+1)).filter p=(ws.take i).filter p++(if p w=true then[w]else[]):=by
 rw[take_snoc h,iy];congr 1;by_cases c:p w=true
 ·rw[if_pos c];simp[c]
 ·rw[if_neg c];simp[c]
theorem AW(ds:List ak)(r:Str):(cw ds r).length<=ds.length:=cM _ _
theorem cJ.sg0{J0 J2 J4:Zb}{ds:List ak}(m:cJ J0 J2 J4 ds){r:Str}:∀d∈cw ds r,d.sg≠[]:=by
 intro d hd;have:=m.good d (fb.mp hd).1;rcases this.sg with⟨w,_,e⟩|⟨w,_,e⟩|e<;>rw[e]<;>exact List.cons_ne_nil _ _
theorem GL{K:Za}{C:Addr}(M:MC K C){vs:List V}{H:Hp}{Q:VK}{E:XK}(h:sf C vs H Q E):
  mT K sp_need_none sp_first_led_round xn oy (sp_as_keys K) sp_has_asks_alone sp_doors_by_start sp_need_parts (be Q) (start nG vs) H:=by
 obtain⟨x,dx,l1,l2,l3,l4,ts,J0,J2,J4,ds,rfl,hx,L,m,k⟩:=h;have z3:=m.rooms26;have z4:=m.few;refine⟨_,rfl,_,rfl,_,rfl,_,rfl,l1,l2,l3,l4,ts,J0,J2,J4,ds,rfl,L,m,fun H1 S1=>?_⟩;have hx1:=S1 _ _ hx;have L1:=L.same S1;have E1:ca x H H1:=ab.exB S1;refine⟨_,rfl,.inl ⟨l1,_,rfl,.inl (az.of L1.a1),fun o1 ho1=>⟨_,rfl,x,C,dx,_,rfl,kp hx1 ho1,M.cls,M.a1,(by show 0<1000;decide),?_⟩⟩⟩;obtain⟨H2,e2,hx2,F2⟩:=qj "own_asks" (.ref o1) (kp (x:=.lst (J0.map V.str)) hx1 ho1);rw[<-e2];have n1:o1≠x:=(ae hx1 ho1).symm;have f1:=F2 _ _ aa n1;have E2:ca x H1 H2:=(ca.new ho1).trans F2;have L2':=L1.exI hx1 E2;have len2:(cO ("own_asks":Str) (.ref o1) []).length<=1:=eB _ _ _;clear e2 F2;refine⟨_,rfl,.inl ⟨l2,_,rfl,.inl (az.of L2'.a2),fun o2 ho2=>⟨_,rfl,x,C,dx,_,rfl,kp hx2 ho2,M.cls,M.a2,by omega,?_⟩⟩⟩;obtain⟨H3,e3,hx3,F3⟩:=qj "own_says" (.ref o2) (kp (x:=.lst (J2.map V.str)) hx2 ho2);rw[<-e3];have n2:o2≠x:=(ae hx2 ho2).symm;have f2:=F3 _ _ aa n2;have E3:ca x H2 H3:=(ca.new ho2).trans F3;have L3:=L2'.exI hx2 E3;have len3:=eB ("own_says":Str) (.ref o2) (cO ("own_asks":Str) (.ref o1) []);clear e3 F3;refine⟨_,rfl,.inl ⟨l3,_,rfl,.inl (az.of L3.a3),fun o3 ho3=>⟨_,rfl,x,C,dx,_,rfl,kp hx3 ho3,M.cls,M.a3,by omega,?_⟩⟩⟩;obtain⟨H4,e4,hx4,F4⟩:=qj "own_rooms" (.ref o3) (kp (x:=.lst (J4.map V.str)) hx3 ho3);rw[<-e4];have n3:o3≠x:=(ae hx3 ho3).symm;have f3:=F4 _ _ aa n3;have E4:ca x H3 H4:=(ca.new ho3).trans F4;have L4:=L3.exI hx3 E4;have len4:=eB ("own_rooms":Str) (.ref o3) (cO ("own_says":Str) (.ref o2) (cO ("own_asks":Str) (.ref o1) []));clear e4 F4;refine⟨_,rfl,.inl ⟨l4,_,rfl,.inl (az.of L4.a4),fun o4 ho4=>⟨_,rfl,x,C,dx,_,rfl,kp hx4 ho4,M.cls,M.a4,by omega,?_⟩⟩⟩;obtain⟨H5,e5,hx5,F5⟩:=qj "own_doors" (.ref o4) (kp (x:=.lst (ts.map V.ref)) hx4 ho4);rw[<-e5];have n4:o4≠x:=(ae hx4 ho4).symm;have f4:=F5 _ _ aa n4;have E5:ca x H4 H5:=(ca.new ho4).trans F5;have L5:=L4.exI hx4 E5;generalize hfs4:cO ("own_doors":Str) (.ref o4) (cO ("own_rooms":Str) (.ref o3) (cO ("own_says":Str) (.ref o2) (cO ("own_asks":Str) (.ref o1) [])))=fs4 at hx5;have len5:fs4.length<=4:=by
  rw[<-hfs4];have:=eB ("own_doors":Str) (.ref o4) (cO ("own_rooms":Str) (.ref o3) (cO ("own_says":Str) (.ref o2) (cO ("own_asks":Str) (.ref o1) [])));omega
 clear e5 F5;refine⟨_,rfl,_,rfl,l3,l4,ts,J4,ds,rfl,L5.a3,L5.a4,L5.ds,m.okR.1,by omega,by omega,fun d hd=>(m.good d hd).a,fun lv lps H6' hlps flv' hlv' S6=>⟨_,rfl,x,C,dx,fs4,rfl,S6 _ _ hx5,M.cls,M.a5,by omega,?_⟩⟩;obtain⟨H6,e6,hx6,F6⟩:=qj "leaving" (.ref lv) (S6 _ _ hx5);rw[<-e6];have E6:ca x H5 H6:=(ab.exB S6).trans F6;have L6:=L5.exI hx5 E6;have flv:=F6 _ _ flv' (Fl (S6 _ _ hx5) flv');have hlv:∀y∈lps,∃us,H6 y.2=some (.lst (us.map V.ref))/\eE H6 us (cw ds y.1):=fun y hy=>by
  obtain⟨us,g1,g2⟩:=hlv' y hy;exact⟨us,F6 _ _ g1 (ca.neI (S6 _ _ hx5) g1),g2.kt (F6.ktI (S6 _ _ hx5))⟩
 have ndl:(lps.map (·.1)).Nodup:=by rw[hlps];exact m.okR.1
 have len6:=eB ("leaving":Str) (.ref lv) fs4;have lk5:lk "leaving" (cO ("leaving":Str) (.ref lv) fs4)=some (.ref lv):=by
  show gb _ _=_;rw[bw,if_pos rfl]
 clear e6 F6 flv' hlv';refine⟨_,rfl,l3,rfl,⟨_,az.of L6.a3⟩,fun f hf=>?_⟩;refine cx (xs:=J4.map V.str) (fun i vs H'=>vs=((J4.take i).filter (fO ds)).map V.str/\ab H6 H'/\H' f=some (.lst vs)) ⟨rfl,ab.new hf,aa⟩ (fun i vs H' _ ⟨_,S,h'⟩=>⟨h',az.of (S _ _ L6.a3)⟩) ?_ ?_;rotate_left
 ·rintro i vs H' x' hx' hi ⟨rfl,S,f'⟩;obtain⟨r,hr,rfl⟩:=cq hx';obtain⟨⟨r',a⟩,hra,er⟩:=aL.mp (show r∈lps.map (·.1) by rw[hlps];exact cc hr);obtain rfl:r'=r:=er;obtain⟨us,hus,hdo⟩:=hlv _ hra;refine gN ?_;refine⟨_,rfl,x,C,dx,_,.ref lv,rfl,S _ _ hx6,M.cls,M.a5,lk5,_,rfl,lv,.ref a,rfl,.inl ⟨_,.inr r',.inl (S _ _ flv),rfl,(eK i9 ndl hra).symm⟩,a,us,cw ds r',rfl,S _ _ hus,hdo.kt (ab.kt S),aG (AW _ _) (by omega),m.sg0,fun H'' S''=>⟨_,rfl,?_⟩⟩;have hlen:(((J4.take i).filter (fO ds)).map V.str).length<aj:=by
   rw[ai];refine am (aG (cM _ _) ?_);rw[aM];omega
  refine k3 (fun hq=>?_) (fun hq=>?_)
  ·refine⟨_,rfl,S'' _ _ f',hlen,ni hi ⟨?_,?_,aa⟩⟩
   ·rw[b_ hr,if_pos (show fO ds r'=true from hq),ar];rfl
   ·intro b o q;rw[ah (ae q hf)];exact S'' _ _ (S _ _ q)
  ·refine ni hi ⟨?_,S.trans S'',?_⟩
   ·rw[b_ hr,if_neg (show ¬fO ds r'=true from hq),dY]
   ·exact S'' _ _ f'
 rintro vs H7' ⟨rfl,S7,f7⟩;rw[ai,aS]at f7;refine qq (ws:=J4.filter (fO ds)) (az.of f7) (aG (cM _ _) (by omega)) fun qu hqu=>⟨_,rfl,x,C,dx,_,rfl,kp (S7 _ _ hx6) hqu,M.cls,M.a6,by omega,?_⟩;obtain⟨H7,e7,hx7,F7⟩:=qj "quiet" (.ref qu) (kp (x:=.dK (aP (J4.filter (fO ds)))) (S7 _ _ hx6) hqu);rw[<-e7];have n7:qu≠x:=(ae (S7 _ _ hx6) hqu).symm;have fqu:=F7 _ _ aa n7;have E7:ca x H6 H7:=((ab.exB S7).trans (ca.new hqu)).trans F7;have L7:=L6.exI hx6 E7;have len7:=eB ("quiet":Str) (.ref qu) (cO ("leaving":Str) (.ref lv) fs4);clear e7 F7;refine⟨_,rfl,l4,ts,ds,rfl,L7.a4,L7.ds,by omega,fun sg gps H8' G' S8=>⟨_,rfl,x,C,dx,_,rfl,S8 _ _ hx7,M.cls,M.a7,by omega,?_⟩⟩;obtain⟨H8,e8,hx8,F8⟩:=qj "sign_goals" (.ref sg) (S8 _ _ hx7);rw[<-e8];have E8:ca x H7 H8:=(ab.exB S8).trans F8;have L8:=L7.exI hx7 E8;have G8:i_ H8 sg gps ds:=⟨G'.nd,F8 _ _ G'.g (HQ (S8 _ _ hx7) G'.g),fun y hy=>F8 _ _ (G'.ls y hy) (ca.neI (S8 _ _ hx7) (G'.ls y hy)),G'.all⟩;have len8:=eB ("sign_goals":Str) (.ref sg) (cO ("quiet":Str) (.ref qu) (cO ("leaving":Str) (.ref lv) fs4));have lk7:lk "sign_goals" (cO ("sign_goals":Str) (.ref sg) (cO ("quiet":Str) (.ref qu) (cO ("leaving":Str) (.ref lv) fs4)))=some (.ref sg):=by
  show gb _ _=_;rw[bw,if_pos rfl]
 clear e8 F8 G';refine⟨_,rfl,l3,rfl,⟨_,az.of L8.a3⟩,fun f2' hf2=>?_⟩;refine cx (xs:=J4.map V.str) (fun i vs H'=>NE2 fun(us:Ze) (pl:List (Str×Addr))=>NA6 (vs=us.map V.ref) (Paired (fun t (p:Str×Addr)=>H' t=some (.tup [.str p.1,.ref p.2])) us pl) (pl.map (·.1)=J4.take i) ((∀p∈pl,∃L,H' p.2=some (.dK (aP L))/\L.Nodup/\∀w,w∈L↔Reach ds p.1 w)) (ab H8 H') (H' f2'=some (.lst vs)))
  ⟨[],[],rfl,.nil,rfl,by simp,ab.new hf2,aa⟩ (fun i vs H' _ ⟨_,_,_,_,_,_,S,h'⟩=>⟨h',az.of (S _ _ L8.a3)⟩) ?_ ?_
 rotate_left
 ·rintro i vs H' x' hx' hi ⟨us,pl,rfl,hpa,hpl,hle,S,f'⟩;obtain⟨r,hr,rfl⟩:=cq hx';have hilen:us.length<=150:=by
   rw[Paired.length hpa,<-ai (f:=(·.1)) (as:=pl),hpl,aM];omega
  refine gN (pH ?_);refine⟨_,rfl,_,rfl,x,C,dx,_,.ref sg,rfl,S _ _ hx8,M.cls,M.a7,lk7,_,rfl,sg,r,gps,ds,J4,rfl,G8.same S,fun d hd=>(m.good d hd).b,by omega,fun ld Lr H'' hld nd hLr hfr S''=>⟨(by show 2<=aj;decide),fun t ht=>⟨?_,?_,ni hi ⟨us++[t],pl++[(r,ld)],?_,?_,?_,?_,?_,aa⟩⟩⟩⟩
  ·exact kp (S'' _ _ f') ht
  ·rw[ai];exact am (by omega)
  ·rw[ar];rfl
  ·have KT:ik (upd H'' t (.tup [.str r,.ref ld])) (upd (upd H'' t (.tup [.str r,.ref ld])) f2' (.lst (us.map V.ref++[.ref t]))):=eU (kp (S'' _ _ f') ht);exact Paired.app (Paired.mapP hpa fun t' p' e=>KT _ _ (kp (S'' _ _ e) ht)) (.cons (KT _ _ aa) .nil)
  ·rw[ar,hpl,take_snoc hr];rfl
  ·have ned:∀{b:Addr}{kvs:List (fw×V)},upd H'' t (.tup [.str r,.ref ld]) b=some (.dK kvs)->b≠f2':=fun hb z=>by rw[z,kp (S'' _ _ f') ht]at hb;cases hb
   intro p hp;rcases br.mp hp with hp|hp
   ·obtain⟨L0,g1,g2⟩:=hle p hp;refine⟨L0,?_,g2⟩;have:=kp (x:=.tup [.str r,.ref ld]) (S'' _ _ g1) ht;rw[ah (ned this)];exact this
   ·have:p=(r,ld):=by simpa using hp
    subst this;refine⟨Lr,?_,nd,hLr⟩;have:=kp (x:=.tup [.str r,.ref ld]) hld ht;rw[ah (ned this)];exact this
  ·intro b o q;rw[ah (ae q hf2)];exact kp (S'' _ _ (S _ _ q)) ht
 rintro vs H9' ⟨us,sps,rfl,hpa,hsps,hled,S9,f9⟩;rw[ai,aS]at hsps;have nds:(sps.map (·.1)).Nodup:=by rw[hsps];exact m.okR.1
 refine⟨f2',us,dJ Sum.inr sps,rfl,az.of f9,?_,?_,fun sl hsl=>⟨_,rfl,x,C,dx,_,rfl,kp (S9 _ _ hx8) hsl,M.cls,M.a8,by omega,?_⟩⟩
 ·rw[Paired.length hpa];unfold dJ;rw[ai]
 ·intro j t kv hj hkv;obtain⟨p,hp,e⟩:=Paired.getL hpa hj;unfold dJ at hkv;rw[de,hp]at hkv;have:=ff hkv;rw[<-this];exact e
 have emerge:jg [] (dJ Sum.inr sps)=dJ Sum.inr sps:=t9 sps [] nds;rw[emerge];obtain⟨H9,e9,hx9,F9⟩:=qj "still_led" (.ref sl) (kp (x:=.dK (dJ Sum.inr sps)) (S9 _ _ hx8) hsl);rw[<-e9];have n9:sl≠x:=(ae (S9 _ _ hx8) hsl).symm;have fsl:=F9 _ _ aa n9;have E9:ca x H8 H9:=((ab.exB S9).trans (ca.new hsl)).trans F9;have L9:=L8.exI hx8 E9;have hled9:∀p∈sps,∃L,H9 p.2=some (.dK (aP L))/\L.Nodup/\∀w,w∈L↔Reach ds p.1 w:=fun p hp=>by
  obtain⟨L0,g1,g2⟩:=hled p hp;have g3:=kp (x:=.dK (dJ Sum.inr sps)) g1 hsl;exact⟨L0,F9 _ _ g3 (Fl (kp (S9 _ _ hx8) hsl) g3),g2⟩
 clear e9 F9;have lk8:lk "still_led" (cO ("still_led":Str) (.ref sl) (cO ("sign_goals":Str) (.ref sg) (cO ("quiet":Str) (.ref qu) (cO ("leaving":Str) (.ref lv) fs4))))=some (.ref sl):=by
  show gb _ _=_;rw[bw,if_pos rfl]
 refine⟨_,rfl,_,rfl,x,C,dx,_,.ref sl,rfl,hx9,M.cls,M.a8,lk8,l3,sl,J4,sps,rfl,L9.a3,fsl,hsps,m.okR.1,fun p hp=>?_,fun H10 S10=>⟨_,rfl,k H10 ?_ ?_⟩⟩
 ·obtain⟨L0,g1,g2,g3⟩:=hled9 p hp;exact⟨L0,g1,fun z=>m.noround _ ((g3 _).mp z)⟩
 ·have X69:ca x H6 H9:=(E7.trans E8).trans E9;have X59:=((E6.trans E7).trans E8).trans E9;have Y:∀{b:Addr}{o:HO},H9 b=some o->H10 b=some o:=fun h=>S10 _ _ h;have LL:Lists H5 o1 o2 o3 o4 ts J0 J2 J4 ds:=⟨(E3.trans (E4.trans E5)) _ _ f1 n1,(E4.trans E5) _ _ f2 n2,E5 _ _ f3 n3,f4,L5.ds⟩;refine⟨⟨dx,_,o1,o2,o3,o4,lv,qu,sg,sl,ts,lps,gps,sps,Y hx9,?_,?_,?_,?_,?_,?_,?_,?_,?_,?_,?_,lk8,(LL.exI hx5 X59).same S10,hlps,?_,?_,?_,?_,hsps,Y fsl,fun p hp=>?_⟩,m,⟨dx,_,Y hx9,?_,?_,?_,?_⟩⟩
  rotate_right 9
  ·exact Y (X69 _ _ flv (Fl hx6 flv))
  ·intro y hy;obtain⟨us',g1,g2⟩:=hlv y hy;exact⟨us',Y (X69 _ _ g1 (ca.neI hx6 g1)),(g2.kt (X69.ktI hx6)).kt (ab.kt S10)⟩
  ·exact Y ((E8.trans E9) _ _ fqu n7)
  ·exact i_.same ⟨G8.nd,E9 _ _ G8.g (HQ hx8 G8.g),fun y hy=>E9 _ _ (G8.ls y hy) (ca.neI hx8 (G8.ls y hy)),G8.all⟩ S10
  ·obtain⟨L0,g1,g2⟩:=hled9 p hp;exact⟨L0,Y g1,g2⟩
  all_goals(show gb _ _=_;subst hfs4;repeat (rw[bw];first|rw[if_pos rfl] | rw[if_neg (by decide +kernel)]))
  all_goals rfl
 ·exact((((((((E1.trans E2).trans E3).trans E4).trans E5).trans E6).trans E7).trans E8).trans E9).trans (ab.exB S10)
theorem Hk(a b:Str):decide (eZ a=eZ b)=decide (a=b):=by
 by_cases e:a=b
 ·rw[zzr1 e,zzr1 (by rw[e])]
 ·rw[zzr0 e,zzr0 (fun z=>e (oJ z))]
theorem bA.by{C:Addr}{H H':Hp}{x:Addr}{J0 J2 J4:Zb}{ds:List ak}(h:bA C H x J0 J2 J4 ds)
  (hs:∀b ws,H b=some (.lst (List.map V.str ws))->H' b=some (.lst (List.map V.str ws))) (hr:∀b ts,H b=some (.lst (List.map V.ref ts))->H' b=some (.lst (List.map V.ref ts))) (ht:ik H H')
  (hd:∀b kvs,H b=some (.dK kvs)->H' b=some (.dK kvs)) (hT:∀b kvs,H b=some (.dT kvs)->H' b=some (.dT kvs)) (hi:∀b C dx fs,H b=some (.ins C dx fs)->H' b=some (.ins C dx fs)):bA C H' x J0 J2 J4 ds:=by
 obtain⟨dx,fs,o1,o2,o3,o4,lv,qu,sg,sl,ts,lps,gps,sps,g1,a1,a2,a3,a4,b1,b2,b3,b4,b5,b6,b7,b8,L,c1,c2,c3,c4,G,d1,d2,d3⟩:=h.at_;refine⟨⟨dx,fs,o1,o2,o3,o4,lv,qu,sg,sl,ts,lps,gps,sps,hi _ _ _ _ g1,a1,a2,a3,a4,b1,b2,b3,b4,b5,b6,b7,b8,⟨hs _ _ L.a1,hs _ _ L.a2,hs _ _ L.a3,hr _ _ L.a4,L.ds.kt ht⟩,c1,hd _ _ c2,fun y hy=>?_,hd _ _ c4,⟨G.nd,hT _ _ G.g,fun y hy=>hs _ _ (G.ls y hy),G.all⟩,d1,hd _ _ d2,fun y hy=>?_⟩,h.ok,by obtain⟨dx,fs,g,r⟩:=h.more;exact⟨dx,fs,hi _ _ _ _ g,r⟩⟩
 ·obtain⟨us,e1,e2⟩:=c3 y hy;exact⟨us,hr _ _ e1,e2.kt ht⟩
 ·obtain⟨L0,e1,e2⟩:=d3 y hy;exact⟨L0,hd _ _ e1,e2⟩
theorem bA.same{C:Addr}{H H':Hp}{x:Addr}{J0 J2 J4:Zb}{ds:List ak}(h:bA C H x J0 J2 J4 ds)(S:ab H H'):bA C H' x J0 J2 J4 ds :=
 h.by (fun _ _ e=>S _ _ e) (fun _ _ e=>S _ _ e) (ab.kt S) (fun _ _ e=>S _ _ e) (fun _ _ e=>S _ _ e) (fun _ _ _ _ e=>S _ _ e)
theorem bA.ex{C:Addr}{H H':Hp}{x p c:Addr}{J0 J2 J4:Zb}{ds:List ak}(h:bA C H x J0 J2 J4 ds)(hp:gW H p c)(S:ca p H H'):bA C H' x J0 J2 J4 ds:=by
 obtain⟨xs,hx⟩:=hp.lst;exact h.by (fun _ _ e=>S _ _ e (hp.ne_strs e)) (fun _ _ e=>S _ _ e (hp.ne_refs e)) (S.kt hx) (fun _ _ e=>S _ _ e (fun z=>by rw[z,hx]at e;cases e)) (fun _ _ e=>S _ _ e (fun z=>by rw[z,hx]at e;cases e)) (fun _ _ _ _ e=>S _ _ e (fun z=>by rw[z,hx]at e;cases e))
inductive i7(C:Addr)(vs:List V)(H:Hp)(Q:VK)(E:XK):Prop
 |mk (x:Addr) (w:Str) (J0 J2 J4:Zb) (ds:List ak):(vs=[.ref x,.str w])->(bA C H x J0 J2 J4 ds)->(Q (.bl (decide (w∈J4.filter (fO ds)))) H)->i7 C vs H Q E
theorem zb{K:Za}{C:Addr}(M:MC K C){vs:List V}{H:Hp}{Q:VK}{E:XK}(h:i7 C vs H Q E):mS K (be Q) (start nF vs) H:=by
 obtain⟨x,w,J0,J2,J4,ds,rfl,h,k⟩:=h;obtain⟨dx,fs,o1,o2,o3,o4,lv,qu,sg,sl,ts,lps,gps,sps,g1,a1,a2,a3,a4,b1,b2,b3,b4,b5,b6,b7,b8,L,c1,c2,c3,c4,_⟩:=h.at_;refine⟨_,rfl,_,rfl,x,C,dx,fs,.ref qu,rfl,g1,M.cls,M.a6,b6,qu,_,rfl,.inl ⟨_,.inr w,.inl c4,rfl,rfl⟩,?_⟩;rw[eL];exact k
def bF:List Str:=[("hush":Str)]
inductive jL(C:Addr)(vs:List V)(H:Hp)(Q:VK)(E:XK):Prop
 |mk (t l1 l2 l3 l4:Addr) (ts:Ze) (J0 J2 J4:Zb) (ds:List ak):(vs=[.ref t])->(ny H t l1 l2 l3 l4 ts J0 J2 J4 ds)->(cJ J0 J2 J4 ds)->(∀(x:Addr) (H':Hp),bA C H' x J0 J2 J4 ds->ab H H'->Q (.ref x) H')->jL C vs H Q E
theorem AE{K:Za}{C:Addr}{vs:List V}{H:Hp}{Q:VK}{E:XK}(h:jL C vs H Q E):uM K C (sf C) (be Q) (start vc vs) H:=by
 obtain⟨t,l1,l2,l3,l4,ts,J0,J2,J4,ds,rfl,T,m,k⟩:=h;refine⟨_,rfl,.inr (.inl ⟨t,_,0,_,rfl,rfl,bE.of T.t,rfl,.inl ⟨l1,_,rfl,.inl (az.of T.a1),fun m1 h1=>?_⟩⟩)⟩;have T1:=T.same (ab.new (o:=.lst (J0.map V.str)) h1);refine⟨_,rfl,.inr (.inl ⟨t,_,1,_,rfl,rfl,bE.of T1.t,rfl,.inl ⟨l2,_,rfl,.inl (az.of T1.a2),fun m2 h2=>?_⟩⟩)⟩;have T2:=T1.same (ab.new (o:=.lst (J2.map V.str)) h2);refine⟨_,rfl,.inr (.inl ⟨t,_,2,_,rfl,rfl,bE.of T2.t,rfl,.inl ⟨l3,_,rfl,.inl (az.of T2.a3),fun m3 h3=>?_⟩⟩)⟩;have T3:=T2.same (ab.new (o:=.lst (J4.map V.str)) h3);refine⟨_,rfl,.inr (.inl ⟨t,_,3,_,rfl,rfl,bE.of T3.t,rfl,.inl ⟨l4,_,rfl,.inl (az.of T3.a4),fun m4 h4=>?_⟩⟩)⟩;have T4:=T3.same (ab.new (o:=.lst (ts.map V.ref)) h4);have S4:=(((ab.new (o:=.lst (J0.map V.str)) h1).trans (ab.new (o:=.lst (J2.map V.str)) h2)).trans (ab.new (o:=.lst (J4.map V.str)) h3)).trans (ab.new (o:=.lst (ts.map V.ref)) h4);refine fun x dx hx hdx hne=>?_;have S5:ab H (upd (upd (upd (upd (upd (upd H m1 (.lst (J0.map V.str))) m2 (.lst (J2.map V.str))) m3 (.lst (J4.map V.str))) m4 (.lst (ts.map V.ref))) dx (.own x)) x (.ins C dx [])) :=
  (S4.trans (ab.new hdx)).trans (ab.new (by rw[ah hne.symm];exact hx))
 have hxx:upd (upd (upd (upd (upd H m1 (.lst (J0.map V.str))) m2 (.lst (J2.map V.str))) m3 (.lst (J4.map V.str))) m4 (.lst (ts.map V.ref))) dx (.own x) x=none:=by rw[ah hne.symm];exact hx
 refine⟨x,dx,m1,m2,m3,m4,ts,J0,J2,J4,ds,rfl,aa,⟨?_,?_,?_,?_,T.ds.kt (ab.kt S5)⟩,m,fun H' M ex=>⟨rfl,k x H' M fun b o q=>?_⟩⟩
 ·exact kp (kp (kp (kp (kp aa h2) h3) h4) hdx) hxx
 ·exact kp (kp (kp (kp aa h3) h4) hdx) hxx
 ·exact kp (kp (kp aa h4) hdx) hxx
 ·exact kp (kp aa hdx) hxx
 ·have hq:=S5 _ _ q;exact ex _ _ hq (ae (S4.trans (ab.new hdx) _ _ q) hxx)
def fS(ds:List ak):List Str:=(ds.filter fun d=>!k4 d).map (·.a)
theorem AJ(ds:List ak)(r:Str):fO ds r=decide (r∉fS ds):=by
 unfold fO fS cw;rw[yz,List.all_eq_true,decide_eq_true_iff];constructor
 ·intro h z;obtain⟨d,hd,rfl⟩:=aL.mp z;rw[fb]at hd;have:=h d (fb.mpr ⟨hd.1,zzr1 rfl⟩);rw[this]at hd;exact absurd hd.2 (by decide)
 ·intro h d hd;rw[fb]at hd;cases q:k4 d with
  |true=>rfl
  |false =>
   refine absurd (aL.mpr ⟨d,fb.mpr ⟨hd.1,by rw[q];rfl⟩,?_⟩) h;exact of_decide_eq_true hd.2
theorem sn{w:Str}{ws:Zb}:eZ w∈ws.map eZ↔w∈ws:=by
 constructor
 ·intro h;obtain⟨x,hx,e⟩:=aL.mp h;rw[<-oJ e];exact hx
 ·exact kB
theorem vE{ds:List ak}{i:Nat}{d:ak}(h:ds[i]?=some d):fS (ds.take (i+1))=fS (ds.take i)++(if(!k4 d)=true then[d.a]else[]):=by
 unfold fS;rw[take_snoc h,iy,ar];congr 1;by_cases c:(!k4 d)=true
 ·rw[if_pos c];simp[List.filter_cons,c]
 ·rw[if_neg c];simp[List.filter_cons,c]
def wS(K:Za)(C_Machine:Addr)(sp_Machine_rooms:Sp)(sp_Machine_led_from:Sp):TS :=
 ap (aI (tG) U2)
 (ap (eS (b0 K V1) U3 (cK (tB (ie K V3 V2)) (ap (kf V2 V3 (tC (.bl true)))
 (eS (b0 K (bZ C_Machine "led_from" sp_Machine_led_from [] E0 V0 (aA V3))) U4 (kf V2 V4 (tC (.bl true))))) (bC)))
 (aO (gP (tL K) (aA (cA 1 [2] (b0 K (bZ C_Machine "rooms" sp_Machine_rooms [] E0 V0 bL)) U0 (tB (CV K V0 V1)) V0)))))
def yf:List Str:=["M","rooms","found","room","led"]
def rA(K:Za):TS :=
 aO (gP (eo K) (aA (iD K V0 "own_rooms")))
def rW:List Str:=["self"]
def mR(K:Za):TS :=
 aO (gP (eo K) (aA (xk K (iD K V0 "still_led") V1 (bR (bL)))))
def nE:List Str:=["self","room"]
def rB(K:Za):TS :=
 aO (gP (eo K) (aA (xk K (iD K V0 "sign_goals") (bR (aZ V1 V2)) (bR (bL)))))
def rX:List Str:=["self","room","sign"]
def tu(K:Za):TS :=
 ap (aI (gP (eo K) (aA V1)) U2)
 (ap (aI (tC (.int 0)) U3)
 (ap (tD (aW (aD EN V3 (gP (iH K) (aA V2)))) (ap (eS (b0 K V0) (iX K 3 (bm U4 (bm U5 (bm U6 (iO))))) (cK (yX (aW (aD (u9 K) V4 (aD (rL K) V2 V3))) (yX (aW (aD (u9 K) V5 (bR (aA (tC (.str "still")))))) (aW (aD (tN K true) V6 V2)))) (cT (Ad K "list" eI V2 (aA V6))) (bC)))
 (aI (aD dh V3 (tC (.int 1))) U3)))
 (aO V2)))
def uH:List Str:=["doors","rooms","found","at","room","sign","other"]
inductive kN(C:Addr)(vs:List V)(H:Hp)(Q:VK)(E:XK):Prop
 |mk (x:Addr) (J0 J2 J4:Zb) (ds:List ak):(vs=[.ref x])->(bA C H x J0 J2 J4 ds)->(∀l,H l=none->Q (.ref l) (upd H l (.lst (J4.map V.str))))->kN C vs H Q E
theorem Ez{K:Za}{C:Addr}(M:MC K C){vs:List V}{H:Hp}{Q:VK}{E:XK}(h:kN C vs H Q E):rA K (be Q) (start rW vs) H:=by
 obtain⟨x,J0,J2,J4,ds,rfl,h,k⟩:=h;obtain⟨dx,fs,o1,o2,o3,o4,lv,qu,sg,sl,ts,lps,gps,sps,g1,a1,a2,a3,a4,b1,b2,b3,b4,b5,b6,b7,b8,L,_⟩:=h.at_;exact⟨_,rfl,x,C,dx,fs,.ref o3,rfl,g1,M.cls,M.a3,b3,.inl ⟨o3,_,rfl,.inl (az.of L.a3),k⟩⟩
theorem zI:∀{L:Zb},L.Nodup->(aP L).map (fun kv=>kV kv.1)=L.map V.str:=by
 intro L;refine jo (fun L=>L.Nodup->(aP L).map (fun kv=>kV kv.1)=L.map V.str) (fun _=>rfl) (fun ws w ih nd=>?_) L;rw[dw]at nd;have hn:a_ (aP ws) (.inr w)=none:=by
  rw[ud,if_neg (fun z=>nd.2.2 w z w (by simp) rfl)]
 show(aP (ws++[w])).map _=_;rw[dv,iI _ hn,ar,ih nd.1,ar]
 rfl
inductive i6(C:Addr)(vs:List V)(H:Hp)(Q:VK)(E:XK):Prop
 |mk (x:Addr) (r:Str) (J0 J2 J4:Zb) (ds:List ak):(vs=[.ref x,.str r])->(bA C H x J0 J2 J4 ds)->(r∈J4)->(∀(l:Addr) (L:Zb) (H':Hp),H' l=some (.lst (L.map V.str))->L.Nodup->(∀w,w∈L↔Reach ds r w)->H l=none->ab H H'->Q (.ref l) H')->i6 C vs H Q E
theorem y_{K:Za}{C:Addr}(M:MC K C){vs:List V}{H:Hp}{Q:VK}{E:XK}(h:i6 C vs H Q E):mR K (be Q) (start nE vs) H:=by
 obtain⟨x,r,J0,J2,J4,ds,rfl,h,hr,k⟩:=h;obtain⟨dx,fs,o1,o2,o3,o4,lv,qu,sg,sl,ts,lps,gps,sps,g1,a1,a2,a3,a4,b1,b2,b3,b4,b5,b6,b7,b8,L,c1,c2,c3,c4,G,d1,d2,d3⟩:=h.at_;have nod:=h.ok.okR.1;obtain⟨⟨r',a⟩,hra,er⟩:=aL.mp (show r∈sps.map (·.1) by rw[d1];exact hr);obtain rfl:r'=r:=er;obtain⟨L0,e1,e2,e3⟩:=d3 _ hra;refine⟨_,rfl,x,C,dx,fs,.ref sl,rfl,g1,M.cls,M.a8,b8,sl,rfl,.inl ⟨_,.inl d2⟩,_,rfl,(by show 0<=aj;decide),fun et het=>⟨_,.inl ⟨_,.inr r',.inl (kp d2 het),rfl,rfl⟩,?_⟩⟩;rw[eK i9 (by rw[d1];exact nod) hra];refine .inr ⟨a,_,rfl,.inl (kp e1 het),fun l hl=>k l L0 _ ?_ e2 e3 ((ab.new het).free hl) ((ab.new het).trans (ab.new hl))⟩;rw[aa,zI e2]
inductive jq(C:Addr)(vs:List V)(H:Hp)(Q:VK)(E:XK):Prop
 |mk (x s:Addr) (r:Str) (sg J0 J2 J4:Zb) (ds:List ak):(vs=[.ref x,.str r,.ref s])->(bA C H x J0 J2 J4 ds)->(H s=some (.tup (sg.map V.str)))->(∀(l:Addr) (H':Hp),H' l=some (.lst ((bz ds (r,sg)).map V.str))->H l=none->ab H H'->Q (.ref l) H')->jq C vs H Q E
theorem C6{K:Za}{C:Addr}(M:MC K C){vs:List V}{H:Hp}{Q:VK}{E:XK}(h:jq C vs H Q E):rB K (be Q) (start rX vs) H:=by
 obtain⟨x,s,r,sgn,J0,J2,J4,ds,rfl,h,hs,k⟩:=h;obtain⟨dx,fs,o1,o2,o3,o4,lv,qu,sg,sl,ts,lps,gps,sps,g1,a1,a2,a3,a4,b1,b2,b3,b4,b5,b6,b7,b8,L,c1,c2,c3,c4,G,d1,d2,d3⟩:=h.at_;have nod:=h.ok.okR.1;refine⟨_,rfl,x,C,dx,fs,.ref sg,rfl,g1,M.cls,M.a7,b7,sg,rfl,.inr ⟨_,.inl G.g⟩,_,rfl,_,rfl,(by show 2<=aj;decide),fun kt hkt=>⟨(by show 0<=aj;decide),fun et het=>⟨a_ (dJ uL gps) (uL (r,sgn)),.inr ⟨_,uL (r,sgn),kt,.inl (kp (kp G.g hkt) het),rfl,?_,lJ _,rfl⟩,?_⟩⟩⟩
 ·refine dL.isIn 8 (lJ _) ?_;unfold uL dL;refine⟨kt,_,rfl,kp aa het,?_⟩;unfold TKAts;refine⟨_,_,rfl,wR _,?_⟩;unfold TKAts;refine⟨_,_,rfl,SignAt.tk (kp (kp hs hkt) het),?_⟩;unfold TKAts
  rfl
 have S2:ab H (upd (upd H kt (.tup [.str r,.ref s])) et (.tup [])):=(ab.new hkt).trans (ab.new het);by_cases hmem:(r,sgn)∈gps.map (·.1)
 ·obtain⟨⟨y,a⟩,hra,er⟩:=aL.mp hmem;obtain rfl:y=(r,sgn):=er;rw[eK ii G.nd hra];exact .inl ⟨a,_,rfl,.inl (az.of (S2 _ _ (G.ls _ hra))),fun l hl=>k l _ aa (S2.free hl) (S2.trans (ab.new hl))⟩
 ·rw[lM ii hmem];have hnil:bz ds (r,sgn)=[]:=k5 fun y hy z=>hmem (by rw[<-z];exact G.all y hy);refine .inl ⟨et,[],rfl,.inr (bE.of aa),fun l hl=>k l _ ?_ (S2.free hl) (S2.trans (ab.new hl))⟩;rw[hnil];exact aa
theorem Reach.trans{ds:List ak}{a b c:Str}(h1:Reach ds a b)(h2:Reach ds b c):Reach ds a c:=by
 induction h2 with
 |one h=>exact .step h1 h
 |step r h ih=>exact .step ih h
def i0(ds:List ak)(gs:Zb)(w:Str):Prop:=∃g∈gs,w=g∨Reach ds g w
theorem i0.in_{ds:List ak}{gs J4:Zb}{w:Str}(hg:∀g∈gs,g∈J4)(hd:∀d∈ds,d.b∈J4)(h:i0 ds gs w):w∈J4:=by
 obtain⟨g,h1,rfl|h2⟩:=h
 ·exact hg _ h1
 ·exact h2.in_ hd
def rN(F:Zb)(w:Str):List Str:=if w∈F then F else F++[w]
theorem zH(F:Zb):∀kv∈aP F,kv.2=.bl true:=by
 refine jo (fun F=>∀kv∈aP F,kv.2=.bl true) (by intro kv h;cases h) (fun ws w ih=>?_) F;intro kv hkv;rw[dv]at hkv;unfold dz at hkv;split at hkv
 ·obtain⟨x,hx,rfl⟩:=aL.mp hkv;split
  ·rfl
  ·exact ih x hx
 ·rcases br.mp hkv with h|h
  ·exact ih kv h
  ·have:kv=(.inr w,.bl true):=by simpa using h
   rw[this]
theorem ue(F:Zb)(w:Str):dz (aP F) (.inr w) (.bl true)=aP (rN F w):=by
 unfold rN;by_cases c:w∈F
 ·rw[if_pos c];have h1:((aP F).any fun kv=>decide (kv.1=(.inr w:fw)))=true:=by
   rw[jl,eL,zzr1 c]
  unfold dz;rw[if_pos h1];have:∀l:List (fw×V),(∀kv∈l,kv.2=.bl true)->l.map (fun kv=>if kv.1=(.inr w:fw)then(kv.1,V.bl true)else kv)=l:=by
   intro l
   induction l with
   |nil=>intro _;rfl
   |cons x l ih =>
    intro h;rw[bg,ih fun kv hkv=>h kv (dX _ hkv)];congr 1;split
    ·rw[<-h x dI]
    ·rfl
  exact this _ (zH F)
 ·rw[if_neg c,dv]
theorem uD{F:Zb}(h:F.Nodup)(w:Str):(rN F w).Nodup:=by
 unfold rN;split
 ·exact h
 ·next c =>
  rw[dw];refine⟨h,by simp,fun a ha b hb e=>?_⟩;have:b=w:=by simpa using hb
  exact c (by rw[<-this,<-e];exact ha)
theorem zF{F:Zb}{w y:Str}:y∈rN F w↔y∈F∨y=w:=by
 unfold rN;split
 ·next c=>exact⟨.inl,fun h=>h.elim id fun e=>by rw[e];exact c⟩
 ·rw[br];simp
inductive sp_with_still(C:Addr)(vs:List V)(H:Hp)(Q:VK)(E:XK):Prop
 |mk (x l:Addr) (gs J0 J2 J4:Zb) (ds:List ak):(vs=[.ref x,.ref l])->(bA C H x J0 J2 J4 ds)->(H l=some (.lst (gs.map V.str)))->((∀g∈gs,g∈J4))->(∀(t:Addr) (F:Zb) (H':Hp),H' t=some (.tup ((J4.filter fun r=>decide (r∈F)).map V.str))->(∀w,w∈F↔i0 ds gs w)->ab H H'->Q (.ref t) H')->sp_with_still C vs H Q E
theorem uZ{K:Za}{C:Addr}{vs:List V}{H:Hp}{Q:VK}{E:XK}(h:sp_with_still C vs H Q E):wS K C (kN C) (i6 C) (be Q) (start yf vs) H:=by
 obtain⟨x,l,gs,J0,J2,J4,ds,rfl,M,hl,hg,k⟩:=h;have hdb:∀d∈ds,d.b∈J4:=fun d hd=>(M.ok.good d hd).b;have z3:=M.ok.rooms26;refine fun d hd=>?_;refine⟨_,rfl,l,rfl,⟨_,az.of (kp hl hd)⟩,?_⟩;refine cr (xs:=gs.map V.str) (fun i σ H'=>JM fun(F:Zb) (x3 x4:Option V)=>JN (σ=[some (.ref x),some (.ref l),some (.ref d),x3,x4]) (H' d=some (.dK (aP F))) (ab H H') (F.Nodup) (∀w,w∈F↔i0 ds (gs.take i) w))
  ⟨[],_,_,rfl,aa,ab.new hd,sR,fun w=>⟨fun h=>(by cases h),fun⟨g,h,_⟩=>(by cases h)⟩⟩ (fun i σ H' _ ⟨_,_,_,_,_,S,_,_⟩=>az.of (S _ _ hl)) ?_ ?_
 ·rintro i y σ H1 hi ⟨F,x3,x4,rfl,hd1,S1,nd,hF⟩;obtain⟨r,hr,rfl⟩:=cq hi;have hrm:r∈J4:=hg r (cc hr);have hsub:∀w∈F,w∈J4:=fun w hw=>((hF w).mp hw).in_ (fun g hg'=>hg g (fL hg')) hdb;refine⟨_,rfl,_,rfl,d,_,rfl,.inl ⟨_,.inr r,.inl hd1,rfl,rfl⟩,_,rfl,?_⟩;rw[eL];have hstep:∀w,i0 ds (gs.take (i+1)) w↔(i0 ds (gs.take i) w∨w=r∨Reach ds r w):=by
   intro w;rw[take_snoc hr];constructor
   ·rintro⟨g,hg',h⟩;rcases br.mp hg' with hg'|hg'
    ·exact .inl ⟨g,hg',h⟩
    ·have:g=r:=by simpa using hg'
     subst this;exact .inr h
   ·rintro(⟨g,hg',h⟩|h)
    ·exact⟨g,cL _ hg',h⟩
    ·exact⟨r,cZ _ (by simp),h⟩
  by_cases c:r∈F
  ·rw[zzr1 c];refine bj ⟨F,_,_,rfl,hd1,S1,nd,fun w=>?_⟩;rw[hstep,hF];refine⟨.inl,fun h=>h.elim id fun h=>?_⟩;obtain⟨g,hg',hgr⟩:=(hF r).mp c;rcases h with h|h
   ·rw[h];exact⟨g,hg',hgr⟩
   ·refine⟨g,hg',.inr ?_⟩;rcases hgr with e|hgr
    ·rw[<-e];exact h
    ·exact hgr.trans h
  ·rw[zzr0 c];refine bX ?_;have hlen:∀{F:Zb},F.Nodup->(∀w∈F,w∈J4)->(aP F).length<aj:=fun nd hs=>am (aG (jY _) (aG (oS nd hs) (by omega)));refine⟨_,rfl,_,rfl,d,_,rfl,.inl ⟨_,.inr r,hd1,rfl,hlen nd hsub,rfl⟩,?_⟩;rw[ue];have S2:ab H (upd H1 d (.dK (aP (rN F r)))):=fun b o q=>by rw[ah (ae q hd)];exact S1 _ _ q
   have hd2:upd H1 d (.dK (aP (rN F r))) d=some (.dK (aP (rN F r))):=aa;generalize upd H1 d (.dK (aP (rN F r)))=H2 at S2 hd2 ⊢;have M2:=M.same S2;obtain⟨dx,fs,o1,o2,o3,o4,lv,qu,sg,sl,ts,lps,gps,sps,g1,a1,a2,a3,a4,_⟩:=M2.at_;refine⟨_,rfl,x,dx,fs,rfl,g1,a3,_,rfl,x,r,J0,J2,J4,ds,rfl,M2,hrm,fun ll L H3 hll ndL hL frl S3=>⟨ll,rfl,⟨_,az.of hll⟩,?_⟩⟩;have hd3:=S3 _ _ hd2;have llH:H ll=none:=S2.free frl;have lld:ll≠d:=fun z=>by rw[z,hd2]at frl;cases frl
   refine cr (xs:=L.map V.str) (fun j σ H'=>NE2 fun(F':Zb) (x4:Option V)=>NA6 (σ=[some (.ref x),some (.ref l),some (.ref d),some (.str r),x4]) (H' d=some (.dK (aP F'))) (H' ll=some (.lst (L.map V.str))) (ab H H') (F'.Nodup) (∀w,w∈F'↔(i0 ds (gs.take i) w∨w=r∨w∈L.take j)))
    ⟨rN F r,_,rfl,hd3,hll,S2.trans S3,uD nd r,fun w=>?_⟩ (fun j σ H' _ ⟨_,_,_,_,h,_,_,_⟩=>az.of h) ?_ ?_
   ·rw[zF,hF];simp
   ·rintro j y σ H4 hj ⟨F',x4',rfl,hd4,hll4,S4,nd4,hF4⟩;obtain⟨v,hv,rfl⟩:=cq hj;have hsub4:∀w∈F',w∈J4:=by
     intro w hw;rcases(hF4 w).mp hw with h|h|h
     ·exact h.in_ (fun g hg'=>hg g (fL hg')) hdb
     ·rw[h];exact hrm
     ·exact((hL w).mp (fL h)).in_ hdb
    refine⟨_,rfl,_,rfl,d,_,rfl,.inl ⟨_,.inr v,hd4,rfl,hlen nd4 hsub4,rfl⟩,rN F' v,_,rfl,?_,?_,?_,uD nd4 v,fun w=>?_⟩
    ·rw[aa,ue]
    ·rw[ah lld];exact hll4
    ·intro b o q;rw[ah (ae q hd)];exact S4 _ _ q
    ·rw[zF,hF4,take_snoc hv,br];simp only[cC];constructor
     ·rintro((h|h|h)|h)
      ·exact .inl h
      ·exact .inr (.inl h)
      ·exact .inr (.inr (.inl h))
      ·exact .inr (.inr (.inr h))
     ·rintro(h|h|h|h)
      ·exact .inl (.inl h)
      ·exact .inl (.inr (.inl h))
      ·exact .inl (.inr (.inr h))
      ·exact .inr h
   ·rintro σ H4 ⟨F',x4',rfl,hd4,hll4,S4,nd4,hF4⟩;rw[ai,aS]at hF4;refine⟨F',_,_,rfl,hd4,S4,nd4,fun w=>?_⟩;rw[hstep,hF4,hL]
 ·rintro σ H1 ⟨F,x3,x4,rfl,hd1,S1,nd,hF⟩;rw[ai,aS]at hF;have M1:=M.same S1;obtain⟨dx,fs,o1,o2,o3,o4,lv,qu,sg,sl,ts,lps,gps,sps,g1,a1,a2,a3,a4,_⟩:=M1.at_;refine⟨_,rfl,x,dx,fs,rfl,g1,a4,x,J0,J2,J4,ds,rfl,M1,fun rl hrl=>⟨rl,rfl,⟨_,az.of aa⟩,fun f hf=>?_⟩⟩;have S2:ab H (upd H1 rl (.lst (J4.map V.str))):=S1.trans (ab.new hrl);have hd2:upd H1 rl (.lst (J4.map V.str)) d=some (.dK (aP F)):=kp hd1 hrl;have hrl2:upd H1 rl (.lst (J4.map V.str)) rl=some (.lst (J4.map V.str)):=aa;generalize upd H1 rl (.lst (J4.map V.str))=H2 at S2 hd2 hrl2 hf ⊢;refine cx (xs:=J4.map V.str) (fun i vs H'=>vs=((J4.take i).filter fun r=>decide (r∈F)).map V.str/\ab H2 H'/\H' f=some (.lst vs)) ⟨rfl,ab.new hf,aa⟩ (fun i vs H' _ ⟨_,S,h'⟩=>⟨h',az.of (S _ _ hrl2)⟩) ?_ ?_
  ·rintro vs H' ⟨rfl,S,f'⟩;rw[ai,aS]at f';exact⟨f,_,rfl,.inl ⟨az.of f',fun t ht=>k t F _ aa hF (S2.trans (S.trans (ab.new ht)))⟩⟩
  ·rintro i vs H' x' hx' hi ⟨rfl,S,f'⟩;obtain⟨r,hr,rfl⟩:=cq hx';refine gN ?_;refine⟨_,rfl,_,rfl,d,_,rfl,.inl ⟨_,.inr r,.inl (S _ _ hd2),rfl,rfl⟩,_,rfl,?_⟩;rw[eL];have hlen:(((J4.take i).filter fun r=>decide (r∈F)).map V.str).length<aj:=by
    rw[ai];refine am (aG (cM _ _) ?_);rw[aM];omega
   refine k3 (fun hq=>?_) (fun hq=>?_)
   ·refine⟨_,rfl,f',hlen,ni hi ⟨?_,?_,aa⟩⟩
    ·rw[b_ hr,if_pos hq,ar];rfl
    ·intro b o q;rw[ah (ae q hf)];exact S _ _ q
   ·refine ni hi ⟨?_,S,f'⟩;rw[b_ hr,if_neg hq,dY]
inductive gQ(K:Za)(vs:List V)(H:Hp)(Q:VK)(E:XK):Prop
 |mk (l4 l:Addr) (ts:Ze) (ds:List ak) (gs J4:Zb):(vs=[.ref l4,.ref l])->(H l4=some (.lst (ts.map V.ref)))->(eE H ts ds)->(H l=some (.lst (gs.map V.str)))->((∀d∈ds,d.b∈J4))->(J4.length<=1000)->(gs.length<=1000)->(∀(f:Addr) (F:Zb) (H':Hp),H' f=some (.lst (F.map V.str))->(∀w,w∈F↔i0 ds gs w)->F.length<=2000->H f=none->ab H H'->Q (.ref f) H')->gQ K vs H Q E
structure SO(H0 H:Hp)(ds:List ak)(gs:Zb)(f:Addr)(X:Zb):Prop where
 f:H f=some (.lst ((gs++X).map V.str))
 same:ab H0 H
 nd:X.Nodup
 new:∀y∈X,y∉gs
 sound:∀y∈X,i0 ds gs y
theorem i0.step{ds:List ak}{gs:Zb}{a b:Str}(h:i0 ds gs a)(e:(⟨a,bb,b⟩:ak)∈ds):i0 ds gs b:=by
 obtain⟨g,hg,rfl|h⟩:=h
 ·exact⟨_,hg,.inr (.one e)⟩
 ·exact⟨g,hg,.inr (.step h e)⟩
theorem jZ(a b:Zb):decide (fB a=fB b)=decide (a=b):=by
 by_cases e:a=b
 ·rw[zzr1 e,zzr1 (by rw[e])]
 ·rw[zzr0 e,zzr0 (fun z=>e (o7 z))]
inductive SoI(l4 l f:Addr)(at_:Int)(H:Hp)(ds:List ak)(gs X:Zb)(here:Str)(j:Nat)(σ:L2.St)(H':Hp):Prop
 |mk (X' Y:Zb) (x y z:Option V):σ=[some (.ref l4),some (.ref l),some (.ref f),some (.int at_),x,y,z]->X'=X++Y->SO H H' ds gs f X'->(∀d∈ds.take j,d.a=here->d.sg=bb->d.b∈gs++X')->SoI l4 l f at_ H ds gs X here j σ H'
theorem y9{K:Za}{vs:List V}{H:Hp}{Q:VK}{E:XK}(h:gQ K vs H Q E):tu K (be Q) (start uH vs) H:=by
 obtain⟨l4,l,ts,ds,gs,J4,rfl,h4,hds,hl,hin,hz,hz2,k⟩:=h;refine⟨_,rfl,.inl ⟨l,_,rfl,.inl (az.of hl),fun f hf=>?_⟩⟩;have lenX:∀{X:Zb},X.Nodup->(∀y∈X,y∉gs)->(∀y∈X,i0 ds gs y)->X.length<=J4.length:=fun nd nw sd=>oS nd fun y hy=>by
  obtain⟨g,hg,e|h⟩:=sd y hy
  ·exact absurd (by rw[e];exact hg) (nw y hy)
  ·exact h.in_ hin
 refine⟨fun m σ H'=>∃(X:Zb) (at_:Nat) (x y z:Option V),σ=[some (.ref l4),some (.ref l),some (.ref f),some (.int at_),x,y,z]/\SO H H' ds gs f X/\at_<=(gs++X).length/\(∀i y,i<at_->(gs++X)[i]?=some y->∀c,(⟨y,bb,c⟩:ak)∈ds->c∈gs++X)/\m=gs.length+J4.length-at_,
  ⟨_,[],0,_,_,_,rfl,⟨by rw[dY];exact aa,ab.new hf,sR,by simp,by simp⟩,cG _,fun i y h=>by omega,rfl⟩,?_⟩
 rintro m σ H1 ⟨X,at_,x4,x5,x6,rfl,D,hat,hcl,rfl⟩;have hXl:=lenX D.nd D.new D.sound;refine⟨_,rfl,_,rfl,.inl ⟨f,_,rfl,.inl (az.of D.f),_,_,rfl,rfl,_,rfl,?_⟩⟩;refine k3 (fun hlt=>?_) (fun hlt=>?_)
 ·have hlt':at_<(gs++X).length:=by
   have:=of_decide_eq_true hlt;rw[ai]at this;omega
  have hat0:at_<gs.length+J4.length:=by rw[aE]at hlt';omega
  generalize hhere:(gs++X)[at_]=here;have hget:(gs++X)[at_]?=some here:=by rw[<-hhere];exact cN hlt'
  have hfrom:∀{Y:Zb}{y:Str},(∀y∈Y,i0 ds gs y)->y∈gs++Y->i0 ds gs y:=fun sd hy=>by
   rcases br.mp hy with hy|hy
   ·exact⟨_,hy,.inl rfl⟩
   ·exact sd _ hy
  refine⟨fun σ' H'=>∃(X':Zb) (x y z:Option V),σ'=[some (.ref l4),some (.ref l),some (.ref f),some (.int ((at_+1:Nat):Int)),x,y,z]/\SO H H' ds gs f X'/\at_+1<=(gs++X').length/\(∀i y,i<at_+1->(gs++X')[i]?=some y->∀c,(⟨y,bb,c⟩:ak)∈ds->c∈gs++X'),
   fun σ' H' ⟨X',x,y,z,e,D',h1,h2⟩=>⟨_,(by omega:gs.length+J4.length-(at_+1)<gs.length+J4.length-at_),X',at_+1,x,y,z,e,D',h1,h2,rfl⟩,?_⟩
  refine⟨_,rfl,l4,rfl,⟨_,az.of (D.same _ _ h4)⟩,?_⟩;refine cr (xs:=ts.map V.ref) (SoI l4 l f at_ H ds gs X here)
   ⟨X,[],_,_,_,rfl,by simp,D,by simp⟩ (fun j σ H' _ ⟨_,_,_,_,_,_,_,D',_⟩=>az.of (D'.same _ _ h4)) ?_ ?_
  ·rintro j y σ H2 hj ⟨X',Y,x4',x5',x6',rfl,rfl,D2,hdone⟩;obtain⟨t,ht,rfl⟩:=bQ hj;obtain⟨dr,hdr,hatd⟩:=Paired.getL hds ht;obtain⟨s,ht2,hs2⟩:=hatd.kt (ab.kt D2.same);have hmem:=cc hdr;have hXl2:=lenX D2.nd D2.new D2.sound;have hget2:(gs++(X++Y))[at_]?=some here:=by
    rw[<-eQ,sV hlt'];exact hget
   refine⟨t,_,rfl,bE.of ht2,rfl,_,_,rfl,_,_,rfl,_,_,rfl,rfl,?_⟩;have nextI:∀(H3:Hp) (X3 Y3:Zb) (q4 q5 q6:Option V),X3=X++Y3->SO H H3 ds gs f X3->(∀y∈X++Y,y∈X3)->(dr.a=here->dr.sg=bb->dr.b∈gs++X3) ->
     SoI l4 l f at_ H ds gs X here (j+1) [some (.ref l4),some (.ref l),some (.ref f),some (.int at_),q4,q5,q6] H3:=by
    intro H3 X3 Y3 q4 q5 q6 e D3 hsub hnew;refine⟨X3,Y3,q4,q5,q6,rfl,e,D3,fun d hd e1 e2=>?_⟩;rw[take_snoc hdr]at hd;rcases br.mp hd with hd|hd
    ·rcases br.mp (hdone d hd e1 e2)with h|h
     ·exact cL _ h
     ·exact cZ _ (hsub _ h)
    ·have:d=dr:=by simpa using hd
     subst this;exact hnew e1 e2
   refine⟨_,rfl,_,rfl,_,rfl,.inl ⟨f,_,_,_,rfl,rfl,az.of D2.f,aX (j:=at_) (by rw[de,hget2];rfl),eZ dr.a,eZ here,qX _,qX _,(by show 0<=8;decide),(by show 0<=8;decide),_,rfl,?_⟩⟩;rw[Hk];by_cases c1:dr.a=here;rotate_left
   ·rw[zzr0 c1];exact bj (bj (nextI H2 _ _ _ _ _ rfl D2 (fun _ h=>h) fun e=>absurd e c1))
   rw[zzr1 c1];refine bX ?_;refine⟨_,rfl,(by show 1<=aj;decide),fun st hst=>⟨fB dr.sg,fB bb,bx (bE.of (kp hs2 hst)),bx (bE.of aa),by rw[bv];decide,by rw[bv];decide,_,rfl,?_⟩⟩;rw[jZ];have D3:SO H (upd H2 st (.tup [.str "still"])) ds gs f (X++Y):=⟨kp D2.f hst,D2.same.trans (ab.new hst),D2.nd,D2.new,D2.sound⟩;have hstS:H st=none:=D2.same.free hst;generalize upd H2 st (.tup [.str "still"])=H3 at D3 ⊢;by_cases c2:dr.sg=bb;rotate_left
   ·rw[zzr0 c2];exact bj (bj (nextI H3 _ _ _ _ _ rfl D3 (fun _ h=>h) fun _ e=>absurd e c2))
   rw[zzr1 c2];refine bX ?_;refine⟨_,rfl,_,rfl,eZ dr.b,(gs++(X++Y)).map eZ,f,_,qX _,rfl,.inl (az.of D3.f),nq _,(by show 0<=8;decide),by rw[iQ];decide,_,rfl,?_⟩;rw[if_pos rfl];by_cases c3:dr.b∈gs++(X++Y)
   ·rw[zzr1 (sn.mpr c3)];exact bj (nextI H3 _ _ _ _ _ rfl D3 (fun _ h=>h) fun _ _=>c3)
   rw[zzr0 (fun z=>c3 (sn.mp z))];refine bX ?_;refine⟨_,rfl,.inl ⟨rfl,_,az.of D3.f⟩,_,rfl,f,_,_,rfl,rfl,D3.f,by rw[ai,aE];exact gh (by omega),?_⟩;have hedge:(⟨here,bb,dr.b⟩:ak)∈ds:=by
    have:dr=⟨here,bb,dr.b⟩:=by cases dr;simp only at c1 c2;rw[c1,c2]
    rw[<-this];exact hmem
   refine nextI _ (X++(Y++[dr.b])) _ _ _ _ rfl ⟨?_,?_,?_,?_,?_⟩ ?_ ?_
   ·rw[aa];have:gs++(X++(Y++[dr.b]))=gs++(X++Y)++[dr.b]:=by simp
    rw[this,ar (l₂:=[dr.b])]
    rfl
   ·intro b o q;rw[ah (ae q hf)];exact D3.same _ _ q
   ·rw[<-eQ,dw];refine⟨D3.nd,by simp,fun a ha b hb e=>?_⟩;have:b=dr.b:=by simpa using hb
    exact c3 (cZ _ (by rw[<-this,<-e];exact ha))
   ·intro y hy;rw[<-eQ]at hy;rcases br.mp hy with hy|hy
    ·exact D3.new y hy
    ·have:y=dr.b:=by simpa using hy
     rw[this];exact fun z=>c3 (cL _ z)
   ·intro y hy;rw[<-eQ]at hy;rcases br.mp hy with hy|hy
    ·exact D3.sound y hy
    ·have:y=dr.b:=by simpa using hy
     rw[this];exact(hfrom D.sound (cc hget)).step hedge
   ·intro y hy;rw[<-eQ];exact cL _ hy
   ·intro _ _;exact cZ _ (by simp)
  ·rintro σ H2 ⟨X',Y,x4',x5',x6',rfl,rfl,D2,hdone⟩;rw[ai,Paired.length hds,aS]at hdone;refine⟨_,rfl,_,_,rfl,rfl,X++Y,_,_,_,rfl,D2,?_,fun i y hi hy c hc=>?_⟩
   ·rw[<-eQ,aE];omega
   ·by_cases e:i=at_
    ·subst e;rw[<-eQ,sV hlt',hget]at hy;have:=ff hy;subst this;exact hdone _ hc rfl rfl
    ·have hi':i<at_:=by omega
     rw[<-eQ,sV (by omega)]at hy;have:=hcl i y hi' hy c hc;rw[<-eQ];exact cL _ this
 ·have hend:at_=(gs++X).length:=by
   have:¬(at_<(gs++X).length):=fun z=>hlt (zzr1 (by rw[ai];omega));omega
  refine⟨_,rfl,k f (gs++X) H1 D.f (fun w=>⟨fun hw=>?_,fun hw=>?_⟩) (by rw[aE];omega) hf D.same⟩
  ·rcases br.mp hw with hw|hw
   ·exact⟨_,hw,.inl rfl⟩
   ·exact D.sound _ hw
  ·have closed:∀y∈gs++X,∀c,(⟨y,bb,c⟩:ak)∈ds->c∈gs++X:=fun y hy c hc=>by
    obtain⟨n,hn⟩:=List.getElem?_of_mem hy;exact hcl n y (by rw[hend];exact(bY.mp hn).1) hn c hc
   obtain⟨g,hg,rfl|h⟩:=hw
   ·exact cL _ hg
   ·induction h with
    |one e=>exact closed _ (cL _ hg) _ e
    |step r e ih=>exact closed _ ih _ e

def dj(ds:List ak)(sg:Zb)(J8:Zb):List Str:=J8.flatMap fun r=>bz ds (r,sg)
theorem vb{ds:List ak}{sg J8:Zb}{i:Nat}{r:Str}(h:J8[i]?=some r):dj ds sg (J8.take (i+1))=dj ds sg (J8.take i)++bz ds (r,sg):=by
 unfold dj;rw[take_snoc h,List.flatMap_append];simp
theorem qV(ds:List ak)(x:Str×List Str):(bz ds x).length<=ds.length:=by
 unfold bz;rw[ai];exact cM _ _
theorem o6(ds:List ak)(sg:Zb):∀J8:List Str,(dj ds sg J8).length<=J8.length * ds.length
 |[]=>cG _
 |r::J8=>by
  show((bz ds (r,sg))++dj ds sg J8).length<=(J8.length+1) * ds.length;rw[aE,g8];have h1:=qV ds (r,sg);have h2:=o6 ds sg J8;omega
theorem oU{ds:List ak}{sg J8:Zb}{b:Str}:b∈dj ds sg J8↔∃r∈J8,(⟨r,sg,b⟩:ak)∈ds:=by
 unfold dj;rw[List.mem_flatMap];constructor
 ·rintro⟨r,hr,h⟩;exact⟨r,hr,gU.mp h⟩
 ·rintro⟨r,hr,h⟩;exact⟨r,hr,gU.mpr h⟩
inductive oz(C:Addr)(vs:List V)(H:Hp)(Q:VK)(E:XK):Prop
 |mk (x t s:Addr) (J8 sg J0 J2 J4:Zb) (ds:List ak):(vs=[.ref x,.ref t,.ref s])->(bA C H x J0 J2 J4 ds)->(H t=some (.tup (J8.map V.str)))->(H s=some (.tup (sg.map V.str)))->(sg≠bF)->(J8.length<=1000)->(∀(t':Addr) (F:Zb) (H':Hp),H' t'=some (.tup ((J4.filter fun r=>decide (r∈F)).map V.str))->(∀w,w∈F↔i0 ds (dj ds sg J8) w)->ab H H'->Q (.ref t') H')->oz C vs H Q E
theorem xy{K:Za}{C hu:Addr}(hhu:∀H,bE K H hu (bF.map V.str)){sp2:Sp}{vs:List V}{H:Hp}{Q:VK}{E:XK}(h:oz C vs H Q E):
  my K (sp_with_still C) C (jq C) hu sp2 (be Q) (start mC vs) H:=by
 obtain⟨x,t,s,J8,sg,J0,J2,J4,ds,rfl,M,ht,hs,hne,hz,k⟩:=h;have hdb:∀d∈ds,d.b∈J4:=fun d hd=>(M.ok.good d hd).b;have z4:=M.ok.few;refine⟨_,rfl,fB sg,fB bF,bx (bE.of hs),bx (hhu _),by rw[bv];decide,by rw[bv];decide,_,rfl,?_⟩;rw[jZ,zzr0 hne];refine bj ?_;refine⟨(by show 0<=aj;decide),fun g hg=>?_⟩;refine⟨_,rfl,t,rfl,⟨_,bE.of (kp ht hg)⟩,?_⟩;refine Cg (xs:=J8.map V.str) (fun i σ H'=>∃x4:Option V,σ=[some (.ref x),some (.ref t),some (.ref s),some (.ref g),x4]/\H' g=some (.lst ((dj ds sg (J8.take i)).map V.str))/\ab H H')
  ⟨_,rfl,aa,ab.new hg⟩ (fun i σ H' _ ⟨_,_,_,S⟩=>bE.of (S _ _ ht)) ?_ ?_
 ·rintro i y σ H1 hi ⟨x4,rfl,hg1,S1⟩;obtain⟨r,hr,rfl⟩:=cq hi;have M1:=M.same S1;obtain⟨dx,fs,o1,o2,o3,o4,lv,qu,sgA,sl,ts,lps,gps,sps,g1,a1,a2,a3,a4,_⟩:=M1.at_;refine⟨_,rfl,.inl ⟨rfl,_,az.of hg1⟩,_,rfl,x,dx,fs,rfl,g1,a2,_,rfl,_,rfl,x,s,r,sg,J0,J2,J4,ds,rfl,M1,S1 _ _ hs,fun l H2 hl fr S2=>?_⟩;have hg2:=S2 _ _ hg1;have hlen:((dj ds sg (J8.take i)).map V.str).length+((bz ds (r,sg)).map V.str).length<=aj:=by
   rw[ai,ai];have h1:=o6 ds sg (J8.take i);have h2:=qV ds (r,sg);have h3:(J8.take i).length * ds.length<=1000 * 1000:=Nat.mul_le_mul (by rw[aM];omega) z4;have:(1001000:Nat)<=aj:=by decide
   omega
  refine⟨g,l,_,_,rfl,rfl,hg2,hl,hlen,_,rfl,?_,?_⟩
  ·rw[aa,vb hr,ar]
  ·intro b o q;rw[ah (ae q hg)];exact S2 _ _ (S1 _ _ q)
 ·rintro σ H1 ⟨x4,rfl,hg1,S1⟩;rw[ai,aS]at hg1;refine⟨_,rfl,_,rfl,x,g,dj ds sg J8,J0,J2,J4,ds,rfl,M.same S1,hg1,fun w hw=>?_,fun t' F H' h1 h2 S2=>k t' F H' h1 h2 (S1.trans S2)⟩;obtain⟨r,_,h⟩:=oU.mp hw;exact hdb _ h
def wZ(K:Za)(sp_with_still:Sp)(C_Machine:Addr)(sp_Machine_rooms:Sp):TS :=
 aO (aN sp_with_still (aZ V0 (Ap (rK K) (bZ C_Machine "rooms" sp_Machine_rooms [] E0 V0 bL) (eG) (gM (tC (.int 1))))))
def yn:List Str:=["M"]
inductive bS(C:Addr)(vs:List V)(H:Hp)(Q:VK)(E:XK):Prop
 |mk (x:Addr) (J0 J2 J4:Zb) (ds:List ak):(vs=[.ref x])->(bA C H x J0 J2 J4 ds)->(∀(t':Addr) (F:Zb) (H':Hp),H' t'=some (.tup ((J4.filter fun r=>decide (r∈F)).map V.str))->(∀w,w∈F↔i0 ds (J4.take 1) w)->ab H H'->Q (.ref t') H')->bS C vs H Q E
theorem u5{K:Za}{C:Addr}{vs:List V}{H:Hp}{Q:VK}{E:XK}(h:bS C vs H Q E):wZ K (sp_with_still C) C (kN C) (be Q) (start yn vs) H:=by
 obtain⟨x,J0,J2,J4,ds,rfl,M,k⟩:=h;obtain⟨dx,fs,o1,o2,o3,o4,lv,qu,sgA,sl,ts,lps,gps,sps,g1,a1,a2,a3,a4,_⟩:=M.at_;have c1:fU (J4.map V.str) none (some 1)=(J4.take 1).map V.str:=xT J4 1;refine⟨_,rfl,_,rfl,x,dx,fs,rfl,g1,a4,x,J0,J2,J4,ds,rfl,M,fun rl hrl=>⟨_,rfl,rl,_,rfl,az.of aa,fun l hl=>?_⟩⟩;rw[c1];have S:ab H (upd (upd H rl (.lst (J4.map V.str))) l (.lst ((J4.take 1).map V.str))):=(ab.new hrl).trans (ab.new hl);exact⟨x,l,J4.take 1,J0,J2,J4,ds,rfl,M.same S,aa,fun g hg=>fL hg,fun t' F H' h1 h2 S2=>k t' F H' h1 h2 (S.trans S2)⟩
theorem xS(o:Str)(L:Zb):decide (eZ o∈L.map eZ)=decide (o∈L):=by
 by_cases c:o∈L
 ·rw[zzr1 (sn.mpr c),zzr1 c]
 ·rw[zzr0 (fun z=>c (sn.mp z)),zzr0 c]
theorem bE.same{K:Za}{H H':Hp}{a:Addr}{xs:List V}(S:ab H H')(h:bE K H a xs):bE K H' a xs:=by
 rcases h with(h|⟨o,h⟩)|h
 ·exact .inl (.inl (S _ _ h))
 ·exact .inl (.inr ⟨o,S _ _ h⟩)
 ·exact .inr h
theorem az.same{K:Za}{H H':Hp}{a:Addr}{xs:List V}(S:ab H H')(h:az K H a xs):az K H' a xs:=by
 rcases h with(h|⟨o,h⟩)|h
 ·exact .inl (.inl (S _ _ h))
 ·exact .inl (.inr ⟨o,S _ _ h⟩)
 ·exact .inr h
mutual
theorem nI.same{K:Za}{H H':Hp}(S:ab H H'):∀{d:DT}{v:V},nI K H d v->nI K H' d v
 |.k a,v,h=>by unfold nI at h ⊢;exact h
 |.t l,v,h=>by
  unfold nI at h ⊢;obtain⟨b,xs,e,q,r⟩:=h;exact⟨b,xs,e,bE.same S q,DIns.same S r⟩
 |.s l,v,h=>by
  unfold nI at h ⊢;obtain⟨b,xs,e,q,r⟩:=h;exact⟨b,xs,e,az.same S q,DIns.same S r⟩
theorem DIns.same{K:Za}{H H':Hp}(S:ab H H'):∀{ds:List DT}{vs:List V},DIns K H ds vs->DIns K H' ds vs
 |[],vs,h=>by unfold DIns at h ⊢;exact h
 |d::ds,vs,h=>by
  unfold DIns at h ⊢;obtain⟨v,us,e,q,r⟩:=h;exact⟨v,us,e,nI.same S q,DIns.same S r⟩
end
open Classical in
def closF(J4:Zb)(ds:List ak)(gs:Zb):List Str:=J4.filter fun r=>decide (i0 ds gs r)
open Classical in
theorem jD{J4 F gs:Zb}{ds:List ak}(hF:∀w,w∈F↔i0 ds gs w):J4.filter (fun r=>decide (r∈F))=closF J4 ds gs:=by
 unfold closF;refine List.filter_congr fun r _=>?_;by_cases c:r∈F
 ·rw[zzr1 c,zzr1 ((hF r).mp c)]
 ·rw[zzr0 c,zzr0 fun z=>c ((hF r).mpr z)]
open Classical in
theorem zT{J4 gs gs':Zb}{ds:List ak}(h:∀g,g∈gs↔g∈gs'):closF J4 ds gs=closF J4 ds gs':=by
 have:∀r,i0 ds gs r↔i0 ds gs' r:=fun r=>⟨fun⟨g,hg,e⟩=>⟨g,(h g).mp hg,e⟩,fun⟨g,hg,e⟩=>⟨g,(h g).mpr hg,e⟩⟩;unfold closF;refine List.filter_congr fun r _=>?_;by_cases c:i0 ds gs r
 ·rw[zzr1 c,zzr1 ((this r).mp c)]
 ·rw[zzr0 c,zzr0 fun z=>c ((this r).mpr z)]
theorem lR{J4 gs:Zb}{ds:List ak}:∀r∈closF J4 ds gs,r∈J4:=fun r h=>(fb.mp h).1
theorem jC{J4 gs:Zb}{ds:List ak}:(closF J4 ds gs).length<=J4.length:=cM _ _
def behF(J4:Zb)(ds:List ak)(J8 sg:Zb):List Str:=if sg=bF then J8.filter (fun r=>decide (r∉fS ds))else closF J4 ds (dj ds sg J8)
theorem k9{J4 J8 sg:Zb}{ds:List ak}(hf:∀r∈J8,r∈J4):∀r∈behF J4 ds J8 sg,r∈J4:=by
 intro r h;unfold behF at h;split at h
 ·exact hf r (fb.mp h).1
 ·exact lR r h
theorem jE{J4 J8 sg:Zb}{ds:List ak}(hr:J4.length<=1000)(hf:J8.length<=1000):(behF J4 ds J8 sg).length<=1000:=by
 unfold behF;split
 ·exact aG (cM _ _) hf
 ·exact aG jC hr
theorem ES{J4:Zb}{ds:List ak}{fc:Zb}(hfc:∀r∈fc,r∈J4):(fc.filter fun r=>decide (r∈J4.filter (fO ds)))=fc.filter fun r=>decide (r∉fS ds):=by
 refine List.filter_congr fun r hr=>?_;rw[<-AJ];cases q:fO ds r with
 |true=>exact zzr1 (fb.mpr ⟨hfc r hr,q⟩)
 |false=>exact zzr0 (fun z=>by rw[(fb.mp z).2]at q;cases q)
inductive sh(K:Za)(C:Addr)(vs:List V)(H:Hp)(Q:VK)(E:XK):Prop
 |mk (x t s:Addr) (J8 sg J0 J2 J4:Zb) (ds:List ak):(vs=[.ref x,.ref t,.ref s])->(bA C H x J0 J2 J4 ds)->(H t=some (.tup (J8.map V.str)))->(bE K H s (sg.map V.str))->((sg=bF∨H s=some (.tup (sg.map V.str))))->((∀r∈J8,r∈J4))->(J8.length<=1000)->(∀(t':Addr) (H':Hp),H' t'=some (.tup ((behF J4 ds J8 sg).map V.str))->ab H H'->Q (.ref t') H')->sh K C vs H Q E
theorem GN{K:Za}{C hu:Addr}(hhu:∀H,bE K H hu (bF.map V.str)){vs:List V}{H:Hp}{Q:VK}{E:XK}(h:sh K C vs H Q E):
  my K (sp_with_still C) C (jq C) hu (i7 C) (be Q) (start mC vs) H:=by
 obtain⟨x,t,s,J8,sg,J0,J2,J4,ds,rfl,M,ht,hs,hor,hsub,hz,k⟩:=h;by_cases hh:sg=bF;rotate_left
 ·refine xy (E:=E) hhu ⟨x,t,s,J8,sg,J0,J2,J4,ds,rfl,M,ht,hor.resolve_left hh,hh,hz,fun t' F H' h1 hF S=>k t' H' ?_ S⟩;rw[h1,jD hF];unfold behF;rw[if_neg hh]
 subst hh;refine⟨_,rfl,fB bF,fB bF,bx hs,bx (hhu _),by rw[bv];decide,by rw[bv];decide,_,rfl,?_⟩;rw[zzr1 rfl];refine bX ?_;refine⟨_,rfl,t,rfl,⟨_,bE.of ht⟩,fun f hf=>?_⟩;refine pb (xs:=J8.map V.str) (fun i vs H'=>vs=((J8.take i).filter fun r=>decide (r∈J4.filter (fO ds))).map V.str/\ab H H'/\H' f=some (.lst vs)) ⟨rfl,ab.new hf,aa⟩ (fun i vs H' _ ⟨_,S,h'⟩=>⟨h',bE.of (S _ _ ht)⟩) ?_ ?_
 ·rintro vs H' ⟨rfl,S,f'⟩;rw[ai,aS]at f';refine⟨f,_,rfl,.inl ⟨az.of f',fun t' ht'=>k t' _ ?_ (S.trans (ab.new ht'))⟩⟩;rw[aa,ES hsub];unfold behF;rw[if_pos rfl]
 ·rintro i vs H' x' hx' hi ⟨rfl,S,f'⟩;obtain⟨r,hr,rfl⟩:=cq hx';have M':=M.same S;obtain⟨dx,fs,o1,o2,o3,o4,lv,qu,sgA,sl,ts,lps,gps,sps,g1,a1,_⟩:=M'.at_;refine gN ?_;refine⟨_,rfl,x,dx,fs,rfl,g1,a1,_,rfl,x,r,J0,J2,J4,ds,rfl,M',_,rfl,?_⟩;have hlen:(((J8.take i).filter fun r=>decide (r∈J4.filter (fO ds))).map V.str).length<aj:=by
   rw[ai];refine am (aG (cM _ _) ?_);rw[aM];omega
  refine k3 (fun hq=>?_) (fun hq=>?_)
  ·refine⟨_,rfl,f',hlen,ni hi ⟨?_,?_,aa⟩⟩
   ·rw[b_ hr,if_pos hq,ar];rfl
   ·intro b o q;rw[ah (ae q hf)];exact S _ _ q
  ·refine ni hi ⟨?_,S,f'⟩;rw[b_ hr,if_neg hq,dY]
theorem CZ{J0 J2 J4:Zb}{dr:ak}(g:Gb J0 J2 J4 dr):∃s0 rest,dr.sg=s0::rest/\(!decide (V.str s0=V.str ("ask":Str)))=!k4 dr:=by
 obtain⟨s0,rest,hsg⟩:∃s0 rest,dr.sg=s0::rest:=by
  rcases g.sg with⟨w,_,e⟩|⟨w,_,e⟩|e<;>exact⟨_,_,e⟩
 refine⟨s0,rest,hsg,?_⟩;unfold k4;rw[hsg];congr 1;show _=decide (s0=("ask":Str));by_cases c:s0=("ask":Str)
 ·rw[zzr1 c,zzr1 (by rw[c])]
 ·rw[zzr0 c,zzr0 (fun z=>c (by injection z))]
inductive xp(K:Za)(vs:List V)(H:Hp)(Q:VK)(E:XK):Prop
 |mk (t ft s l1 l2 l3 l4:Addr) (ts:Ze) (J0 J2 J4 J8 sg:Zb) (ds:List ak):(vs=[.ref t,.ref ft,.ref s])->(ny H t l1 l2 l3 l4 ts J0 J2 J4 ds)->(cJ J0 J2 J4 ds)->(H ft=some (.tup (J8.map V.str)))->(bE K H s (sg.map V.str))->(J8.length<=1000)->(∀(t':Addr) (H':Hp),H' t'=some (.tup ((behF J4 ds J8 sg).map V.str))->ab H H'->Q (.ref t') H')->xp K vs H Q E
abbrev lc(H:Hp)(us:Ze)(L:List (List Str)):Prop:=Paired (SignAt H) us L
theorem lc.kt{H H':Hp}{us:Ze}{L:List (List Str)}(k:ik H H')(h:lc H us L):lc H' us L:=Paired.mapP h fun _ _ r=>k _ _ r
theorem A9(L:List (List Str)):DT.depths (L.map fB)<=1:=by
 induction L with
 |nil=>exact cG _
 |cons x xs ih=>rw[bg];show max (DT.depth (fB x)) (DT.depths _)<=1;rw[bv];omega
def bD(J0 J2:Zb):List (List Str):=J0.map c8++J2.map cu++[bF]
theorem j3{K:Za}{σ:L2.St}{H:Hp}{a l:Addr}{ws:Zb}{kd:Str}{Q:Hp->Prop}(ha:H a=some (.lst (ws.map V.str)))(hz:ws.length<=1000)(hl:H l=none)
  (k:∀(us:Ze) (H':Hp),H' l=some (.lst (us.map V.ref))->lc H' us (ws.map fun w=>[kd,w])->ab H H'->Q H') :
  dO 1 [] σ (Gf K a) U0 ic (bR (aZ (tC (.str kd)) V0)) H l Q:=by
 refine cx (xs:=ws.map V.str) (fun i vs H'=>∃us:List Addr,vs=us.map V.ref/\ab H H'/\H' l=some (.lst vs)/\lc H' us ((ws.take i).map fun w=>[kd,w])) ⟨[],rfl,ab.new hl,aa,.nil⟩ (fun i vs H' _ ⟨_,_,S,h',_⟩=>⟨h',az.of (S _ _ ha)⟩) ?_ ?_
 ·rintro vs H' ⟨us,rfl,S,h',hP⟩;rw[ai,aS]at hP;exact k us H' h' hP S
 ·rintro i vs H' x' hx' hi ⟨us,rfl,S,f',hP⟩;obtain⟨w,hw,rfl⟩:=cq hx';refine gN (pH ?_);refine⟨_,rfl,(by show 2<=aj;decide),fun u hu=>⟨kp f' hu,?_,ni hi ⟨us++[u],by rw[ar];rfl,?_,aa,?_⟩⟩⟩
  ·rw[ai,Paired.length hP,ai,aM];exact am (by omega)
  ·intro b o q;rw[ah (ae q hl)];exact kp (S _ _ q) hu
  ·rw[take_snoc hw,ar];have hk:ik H' (upd (upd H' u (.tup [.str kd,.str w])) l (.lst (us.map V.ref++[.ref u]))):=(ab.kt (ab.new hu)).trans (eU (kp f' hu));exact ef (lc.kt hk hP) ((eU (kp f' hu)) _ _ aa)
theorem uq(xs:List V)(k:Nat):fU xs (some (k:Int)) none=xs.drop k:=by
 unfold fU;rw[HT.sIx_none,HT.sIx_nat,sI (by rw[fA];omega)];by_cases h:k<=xs.length
 ·rw[wm h]
 ·rw[Nat.min_eq_right (by omega),pj (by simp),pj (by omega)]
theorem Paired.takeP{α β:Type}{R:α->β->Prop}:∀(n:Nat) {xs:List α}{ys:List β},Paired R xs ys->Paired R (xs.take n) (ys.take n)
 |0,_,_,_=>by rw[sD,sD];exact .nil
 |_+1,_,_,.nil=>.nil
 |n+1,_,_,.cons r t=>.cons r (Paired.takeP n t)
theorem Paired.dropP{α β:Type}{R:α->β->Prop}:∀(n:Nat) {xs:List α}{ys:List β},Paired R xs ys->Paired R (xs.drop n) (ys.drop n)
 |0,_,_,h=>h
 |_+1,_,_,.nil=>.nil
 |n+1,_,_,.cons r t=>Paired.dropP n t
def tz(K:Za):TS :=
 aO (gP (eo K) (aA (iD K V0 "own_asks")))
def uJ:List Str:=["self"]
def tw(K:Za):TS :=
 aO (gP (eo K) (aA (iD K V0 "own_says")))
def uI:List Str:=["self"]
theorem m_{C x:Addr}{H:Hp}{J0 J2 J4:Zb}{ds:List ak}(h:bA C H x J0 J2 J4 ds):∃(dx:Addr) (fs:List (Str×V)) (o1 o2 lv:Addr) (lps:List (Str×Addr)),H x=some (.ins C dx fs)/\lk "asks" fs=none/\lk "says" fs=none/\lk "doors_from" fs=none/\lk "is_quiet" fs=none/\lk "own_asks" fs=some (.ref o1)/\lk "own_says" fs=some (.ref o2)/\lk "leaving" fs=some (.ref lv) /\
  H o1=some (.lst (J0.map V.str))/\H o2=some (.lst (J2.map V.str))/\lps.map (·.1)=J4/\H lv=some (.dK (dJ Sum.inr lps))/\(∀x∈lps,∃us,H x.2=some (.lst (us.map V.ref))/\eE H us (cw ds x.1)):=by
 obtain⟨dx,fs,o1,o2,o3,o4,lv,qu,sg,sl,ts,lps,gps,sps,g1,a1,a2,a3,a4,b1,b2,b3,b4,b5,b6,b7,b8,L,c1,c2,c3,c4,G,d1,d2,d3⟩:=h.at_;obtain⟨dx',fs',g1',e1,e2,e3,e4⟩:=h.more;rw[g1]at g1';cases g1';exact⟨dx,fs,o1,o2,lv,lps,g1,e1,e2,e4,a1,b1,b2,b5,L.a1,L.a2,c1,c2,c3⟩
inductive oB(C:Addr)(vs:List V)(H:Hp)(Q:VK)(E:XK):Prop
 |mk (x:Addr) (J0 J2 J4:Zb) (ds:List ak):(vs=[.ref x])->(bA C H x J0 J2 J4 ds)->(∀l,H l=none->Q (.ref l) (upd H l (.lst (J0.map V.str))))->oB C vs H Q E
theorem GP{K:Za}{C:Addr}(M:MC K C){vs:List V}{H:Hp}{Q:VK}{E:XK}(h:oB C vs H Q E):tz K (be Q) (start uJ vs) H:=by
 obtain⟨x,J0,J2,J4,ds,rfl,h,k⟩:=h;obtain⟨dx,fs,o1,o2,lv,lps,g1,a1,a2,a3,a4,b1,b2,b3,c1,c2,_⟩:=m_ h;exact⟨_,rfl,x,C,dx,fs,.ref o1,rfl,g1,M.cls,M.a1,b1,.inl ⟨o1,_,rfl,.inl (az.of c1),k⟩⟩
inductive lD(C:Addr)(vs:List V)(H:Hp)(Q:VK)(E:XK):Prop
 |mk (x:Addr) (J0 J2 J4:Zb) (ds:List ak):(vs=[.ref x])->(bA C H x J0 J2 J4 ds)->(∀l,H l=none->Q (.ref l) (upd H l (.lst (J2.map V.str))))->lD C vs H Q E
theorem GF{K:Za}{C:Addr}(M:MC K C){vs:List V}{H:Hp}{Q:VK}{E:XK}(h:lD C vs H Q E):tw K (be Q) (start uI vs) H:=by
 obtain⟨x,J0,J2,J4,ds,rfl,h,k⟩:=h;obtain⟨dx,fs,o1,o2,lv,lps,g1,a1,a2,a3,a4,b1,b2,b3,c1,c2,_⟩:=m_ h;exact⟨_,rfl,x,C,dx,fs,.ref o2,rfl,g1,M.cls,M.a2,b2,.inl ⟨o2,_,rfl,.inl (az.of c2),k⟩⟩


open Classical in
def pL(K:Za)(C_Machine:Addr)(sp_Machine_asks:Sp)(sp_Machine_says:Sp)(a_HUSH:Addr):TS :=
 aO (aD kS (aD kS (cA 1 [] (b0 K (bZ C_Machine "asks" sp_Machine_asks [] E0 V0 bL)) U0 (ic) (bR (aZ (tC (.str "ask")) V0))) (cA 1 [] (b0 K (bZ C_Machine "says" sp_Machine_says [] E0 V0 bL)) U0 (ic) (bR (aZ (tC (.str "say")) V0)))) (dg (aA (tC (.ref a_HUSH)))))
def qt:List Str:=["M"]
def Al(K:Za)(sp_signs_in_order:Sp)(sp_face_behind:Sp):TS :=
 ap (aI (mZ) U2)
 (ap (eS (b0 K (aN sp_signs_in_order (aA V0))) U3 (ap (aI (aN sp_face_behind (du V0 V1 V3)) U4)
 (cK (aW (aD u8 (gP (iH K) (aA V4)) (tC (.int 0)))) (Ev K V2 V3 V4) (bC))))
 (aO V2))
def Bl:List Str:=["M","face","steps","sign","behind"]
abbrev Sg:=List Str
def stepsF(J0 J2 J4:Zb)(ds:List ak)(J8:Zb):List (Sg×List Str):=((bD J0 J2).map fun sg=>(sg,behF J4 ds J8 sg)).filter fun p=>decide (p.2≠[])
structure FMs where
 fs:List (List Str)
 ss:List (List Sg)
abbrev FMst:=FMs×List (List (Sg×Nat))
def Hz(hu:Addr)(H:Hp)(u:Addr)(sg:Zb):Prop:=H u=some (.tup (sg.map V.str))∨(u=hu/\sg=bF)
theorem Hz.same{hu:Addr}{H H':Hp}{u:Addr}{sg:Zb}(h:Hz hu H u sg)(S:ab H H'):Hz hu H' u sg:=h.imp (S _ _) id
theorem nU{K:Za}{a:Addr}{xs:List V}(h:∀H,bE K H a xs)(H:Hp):aV K H a xs:=by
 rcases h (fun _=>none)with(h|⟨o,h⟩)|h
 ·cases h
 ·cases h
 ·exact .inr h
section
variable{K:Za}{hu:Addr}(hh:∀H,bE K H hu (bF.map V.str))
include hh
theorem Hz.tup{H:Hp}{u:Addr}{sg:Zb}(h:Hz hu H u sg):aV K H u (sg.map V.str):=by
 rcases h with h|⟨rfl,rfl⟩
 ·exact .inl h
 ·exact nU hh H
theorem Hz.sq{H:Hp}{u:Addr}{sg:Zb}(h:Hz hu H u sg):bE K H u (sg.map V.str):=by
 rcases h with h|⟨rfl,rfl⟩
 ·exact bE.of h
 ·exact hh H
end
inductive xm(C hu:Addr)(vs:List V)(H:Hp)(Q:VK)(E:XK):Prop
 |mk (x:Addr) (J0 J2 J4:Zb) (ds:List ak):(vs=[.ref x])->(bA C H x J0 J2 J4 ds)->(∀(l:Addr) (us:Ze) (H':Hp),H' l=some (.lst (us.map V.ref))->Paired (Hz hu H') us (bD J0 J2)->ab H H'->Q (.ref l) H')->xm C hu vs H Q E
theorem Ij{K:Za}{C hu:Addr}{vs:List V}{H:Hp}{Q:VK}{E:XK}(h:xm C hu vs H Q E):pL K C (oB C) (lD C) hu (be Q) (start qt vs) H:=by
 obtain⟨x,J0,J2,J4,ds,rfl,M,k⟩:=h;have z1:=M.ok.asks4;have z2:=M.ok.says4;obtain⟨dx,fs,o1,o2,lv,lps,g1,a1,a2,_⟩:=m_ M;refine⟨_,rfl,x,dx,fs,rfl,g1,a1,x,J0,J2,J4,ds,rfl,M,fun w1 hw1=>⟨w1,rfl,⟨_,az.of aa⟩,fun la hla=>?_⟩⟩;have S0:ab H (upd H w1 (.lst (J0.map V.str))):=ab.new hw1;refine j3 (kd:="ask") (ws:=J0) aa (by omega) hla fun ua H1 h1 hP1 S1=>?_;have M1:=M.same (S0.trans S1);obtain⟨dx,fs,o1,o2,lv,lps,g1,a1,a2,_⟩:=m_ M1;refine⟨_,rfl,x,dx,fs,rfl,g1,a2,x,J0,J2,J4,ds,rfl,M1,fun w2 hw2=>⟨w2,rfl,⟨_,az.of aa⟩,fun ls hls=>?_⟩⟩;have S2:ab H1 (upd H1 w2 (.lst (J2.map V.str))):=ab.new hw2;refine j3 (kd:="say") (ws:=J2) aa (by omega) hls fun us H2 h2 hP2 S3=>?_;have S23:=S2.trans S3;have h12:=S23 _ _ h1;have hP12:=lc.kt (ab.kt S23) hP1;refine⟨la,ls,_,_,rfl,rfl,h12,h2,?_,fun c1 hc1=>?_⟩
 ·rw[ai,ai,Paired.length hP1,Paired.length hP2,ai,ai];exact c6 (am (by omega))
 refine⟨(by show 1<=aj;decide),fun hl hhl=>?_⟩;refine⟨c1,hl,_,_,rfl,rfl,kp aa hhl,aa,?_,fun r hr=>?_⟩
 ·rw[aE,ai,ai,Paired.length hP1,Paired.length hP2,ai,ai];exact c6 (am (by show _+1<=1000;omega))
 have S4:=((ab.new (o:=.lst (ua.map V.ref++us.map V.ref)) hc1).trans (ab.new (o:=.lst [.ref hu]) hhl)).trans (ab.new (o:=.lst (ua.map V.ref++us.map V.ref++[.ref hu])) hr);refine k r (ua++us++[hu]) _ ?_ ?_ (((S0.trans S1).trans S23).trans S4)
 ·rw[aa,ar,ar];rfl
 ·exact Paired.app (Paired.app (Paired.mapP (lc.kt (ab.kt S4) hP12) fun _ _ r=>.inl r) (Paired.mapP (lc.kt (ab.kt S4) hP2) fun _ _ r=>.inl r)) (.cons (.inr ⟨rfl,rfl⟩) .nil)
theorem ub{J0 J2 J4:Zb}{ds:List ak}(m:cJ J0 J2 J4 ds):(bD J0 J2).Nodup:=by
 unfold bD;have i1:∀a b:Str,c8 a=c8 b->a=b:=fun a b h=>by unfold c8 at h;injection h with _ h;injection h
 have i2:∀a b:Str,cu a=cu b->a=b:=fun a b h=>by unfold cu at h;injection h with _ h;injection h
 have nd:∀{f:Str->List Str}{l:Zb},(∀a b,f a=f b->a=b)->l.Nodup->(l.map f).Nodup:=by
  intro f l hf hl;rw[wj,List.pairwise_map];exact(wj.1 hl).imp fun h e=>h (hf _ _ e)
 rw[dw,dw];refine⟨⟨nd i1 m.okA.1,nd i2 m.okS.1,?_⟩,by simp,?_⟩
 ·intro x hx y hy e;obtain⟨a,_,rfl⟩:=aL.1 hx;obtain⟨b,_,rfl⟩:=aL.1 hy;unfold c8 cu at e;injection e with e _;exact absurd e (by decide)
 ·intro x hx y hy e;rw[cC.1 hy]at e;rcases br.1 hx with hx|hx
  ·obtain⟨a,_,rfl⟩:=aL.1 hx;unfold c8 bF at e;injection e with _ e;cases e
  ·obtain⟨a,_,rfl⟩:=aL.1 hx;unfold cu bF at e;injection e with _ e;cases e
abbrev lb(H:Hp)(kvs:List (TK×V))(L:List (Sg×List Str)):Prop:=Paired (fun(kv:TK×V) (p:Sg×List Str)=>kv.1=e_ p.1/\∃u,kv.2=.ref u/\H u=some (.tup (p.2.map V.str))) kvs L
theorem Gk{κ:Type}[DecidableEq κ]{kvs:List (κ×V)}{k:κ}(h:∀kv∈kvs,kv.1≠k):a_ kvs k=none:=by
 unfold a_;rw[List.find?_eq_none.2 fun kv hkv=>by simpa using h kv hkv]
 rfl
theorem dk(sg:Zb):(e_ sg).depth<=8:=by
 have:∀l:List Str,TK.depths (l.map oH)=0:=by
  intro l
  induction l with
  |nil=>rfl
  |cons a l ih=>show max (TK.depth (oH a)) (TK.depths _)=0;rw[ih];rfl
 show TK.depths (sg.map oH)+1<=8;rw[this];decide
def stG(J4:Zb)(ds:List ak)(J8:Zb)(L:List (List Str)):List (Sg×List Str):=(L.map fun sg=>(sg,behF J4 ds J8 sg)).filter fun p=>decide (p.2≠[])
theorem y2(J4:Zb)(ds:List ak)(J8:Zb)(L:List (List Str))(sg:Zb):stG J4 ds J8 (L++[sg])=stG J4 ds J8 L++if behF J4 ds J8 sg=[]then[]else[(sg,behF J4 ds J8 sg)]:=by
 unfold stG;rw[ar,iy];congr 1;by_cases c:behF J4 ds J8 sg=[]
 ·rw[if_pos c];simp[c]
 ·rw[if_neg c];simp[c]
theorem Gx{J4:Zb}{ds:List ak}{J8:Zb}{L:List (List Str)}{p:Sg×List Str}(h:p∈stG J4 ds J8 L):p.1∈L:=by
 obtain⟨sg,hs,rfl⟩:=aL.1 (fb.1 h).1;exact hs
theorem Gy{J4:Zb}{ds:List ak}{J8:Zb}{L:List (List Str)}:(stG J4 ds J8 L).length<=L.length:=by
 unfold stG;exact aG (cM _ _) (by rw[ai];exact ax _)
theorem lb.kt{H H':Hp}{kvs:List (TK×V)}{L:List (Sg×List Str)}(k:ik H H')(h:lb H kvs L):lb H' kvs L:=Paired.mapP h fun _ _ ⟨e,u,e2,r⟩=>⟨e,u,e2,k _ _ r⟩
theorem lb.no{H:Hp}{kvs:List (TK×V)}{L:List (Sg×List Str)}(h:lb H kvs L){sg:Sg}(n:∀p∈L,p.1≠sg):a_ kvs (e_ sg)=none:=by
 refine Gk ?_
 induction h with
 |nil=>intro kv hk;exact nomatch hk
 |@cons a b as bs r t ih =>
  intro kv hk;rcases cy.1 hk with rfl|hk
  ·rw[r.1];exact fun e=>n b dI (eN e)
  ·exact ih (fun p hp=>n p (dX _ hp)) kv hk
theorem xF{α:Type}{L:List α}(nd:L.Nodup){i:Nat}{x:α}(e:L[i]?=some x):¬x∈L.take i:=by
 intro h;obtain⟨j,hj,ej⟩:=List.getElem_of_mem h;rw[aM]at hj;have hi:i<L.length:=by rcases Nat.lt_or_ge i L.length with z|z;exact z;rw[List.getElem?_eq_none z]at e;cases e
 rw[List.getElem_take]at ej;rw[cN hi]at e;injection e with e;exact List.pairwise_iff_getElem.1 (wj.1 nd) j i (by omega) hi (by omega) (ej.trans e.symm)
theorem ID{H:Hp}{d:Addr}{kvs:List (TK×V)}{o:HO}(h:H d=some (.dT kvs)):ik H (upd H d o):=fun b xs e=>by rw[ah (fun z=>by rw[z,h]at e;cases e)];exact e
theorem ifQ{b:Bool}{P X Y:Prop}(h:b=true↔P)(h1:P->X)(h2:¬P->Y):if b=true then X else Y:=by
 cases b with
 |true=>exact h1 (h.1 rfl)
 |false=>exact h2 fun z=>by cases h.2 z
inductive jJ(C:Addr)(vs:List V)(H:Hp)(Q:VK)(E:XK):Prop
 |mk (x t:Addr) (J8 J0 J2 J4:Zb) (ds:List ak):(vs=[.ref x,.ref t])->(bA C H x J0 J2 J4 ds)->(H t=some (.tup (J8.map V.str)))->((∀r∈J8,r∈J4))->(J8.length<=1000)->(∀(d:Addr) (kvs:List (TK×V)) (H':Hp),H' d=some (.dT kvs)->lb H' kvs (stepsF J0 J2 J4 ds J8)->H d=none->ab H H'->Q (.ref d) H')->jJ C vs H Q E
theorem AD{K:Za}{C hu:Addr}(hh:∀H,bE K H hu (bF.map V.str)){vs:List V}{H:Hp}{Q:VK}{E:XK}(h:jJ C vs H Q E):Al K (xm C hu) (sh K C) (be Q) (start Bl vs) H:=by
 obtain⟨x,t,J8,J0,J2,J4,ds,rfl,M,ht,hsub,hz,k⟩:=h;have z1:=M.ok.asks4;have z2:=M.ok.says4;have zl:(bD J0 J2).length<=9:=by unfold bD;rw[aE,aE,ai,ai];show _+1<=9;omega
 have nd:=ub M.ok;refine fun d hd=>?_;have S0:ab H (upd H d (.dT [])):=ab.new hd;refine⟨_,rfl,x,J0,J2,J4,ds,rfl,M.same S0,fun l us H1 hl hP S1=>⟨l,rfl,⟨_,az.of hl⟩,?_⟩⟩;refine cr (xs:=us.map V.ref) (fun i σ H'=>JM fun(kvs:List (TK×V)) (x3 x4:Option V)=>JN (σ=[some (.ref x),some (.ref t),some (.ref d),x3,x4]) (H' d=some (.dT kvs)) (ab H H') ((∀b o,H1 b=some o->b≠d->H' b=some o)) (lb H' kvs (stG J4 ds J8 ((bD J0 J2).take i))))
  ⟨[],_,_,rfl,S1 _ _ aa,S0.trans S1,fun _ _ e _=>e,.nil⟩ (fun i σ H' _ ⟨_,_,_,_,_,_,S,_⟩=>az.of (S _ _ hl fun e=>by subst e;have:=S1 _ _ (aa (H:=H) (a:=l) (o:=.dT []));rw[hl]at this;cases this)) ?_ ?_
 ·rintro i y σ H2 hi ⟨kvs,x3,x4,rfl,h2,S2,S12,st⟩;obtain⟨u,hu',rfl⟩:=bQ hi;obtain⟨sg,hsg,hat⟩:=Paired.getL hP hu';have hat2:Hz hu H2 u sg:=hat.imp (fun e=>S12 _ _ e fun z=>by subst z;have:=S1 _ _ (aa (H:=H) (a:=u) (o:=.dT []));rw[e]at this;cases this) id;refine⟨_,rfl,_,rfl,_,rfl,x,t,u,J8,sg,J0,J2,J4,ds,rfl,M.same S2,S2 _ _ ht,hat2.sq hh,hat2.symm.imp (fun e=>e.2) id,hsub,hz,fun f H3 hf S3=>?_⟩;have h3:=S3 _ _ h2;refine⟨_,rfl,.inl ⟨f,_,rfl,.inr (bE.of hf),_,_,rfl,rfl,?_⟩⟩;refine⟨_,rfl,?_⟩;have hat3:=hat2.same S3;have S13:∀b o,H1 b=some o->b≠d->H3 b=some o:=fun b o e n=>S3 _ _ (S12 b o e n);have st3:=st.kt (ab.kt S3);refine ifQ (P:=behF J4 ds J8 sg≠[]) ?_ (fun c=>?_) (fun c=>?_)
  ·rw[ai];constructor
   ·intro h z;rw[z]at h;exact absurd h (by decide)
   ·intro h;exact zzr1 (by have:=List.length_pos_iff.mpr h;omega)
  rotate_left
  ·have c:=Classical.not_not.1 c;refine⟨kvs,_,_,rfl,h3,S2.trans S3,S13,?_⟩;rw[take_snoc hsg,y2,if_pos c,dY];exact st3
  ·have no:a_ kvs (e_ sg)=none:=st3.no fun p hp e=>by
    have h1:=Gx hp;rw[e]at h1;exact xF nd hsg h1
   have ll:kvs.length<aj:=by
    rw[Paired.length st];refine am ?_;have h1:=Gy (J4:=J4) (ds:=ds) (J8:=J8) (L:=(bD J0 J2).take i);rw[aM]at h1;omega
   refine⟨_,rfl,_,rfl,_,rfl,d,u,kvs,e_ sg,rfl,rfl,h3,Et (hat3.tup hh),dk sg,ll,_,_,_,rfl,aa,?_,?_,?_⟩
   ·intro b o e;rw[ah (ae e hd)];exact S3 _ _ (S2 _ _ e)
   ·intro b o e n;rw[ah n];exact S13 b o e n
   ·rw[iI _ no,take_snoc hsg,y2,if_neg c];have kt:ik H3 (upd H3 d (.dT (kvs++[(e_ sg,.ref f)]))):=ID h3;exact ef (st3.kt kt) ⟨rfl,f,rfl,kt _ _ hf⟩
 ·rintro σ H2 ⟨kvs,x3,x4,rfl,h2,S2,_,st⟩;rw[ai,Paired.length hP,aS]at st;exact⟨_,rfl,k d kvs H2 h2 st hd S2⟩
abbrev cV(K:Za)(H:Hp)(w:Addr)(s:List Sg):Prop:=∃gs:List Addr,H w=some (.lst (gs.map V.ref))/\Paired (fun g (sg:Sg)=>aV K H g (sg.map V.str)) gs s
theorem aV.kt{K:Za}{H H':Hp}{a:Addr}{xs:List V}(k:ik H H')(h:aV K H a xs):aV K H' a xs:=h.keeps k
theorem cV.kt{K:Za}{H H':Hp}{w:Addr}{s:List Sg}(k:ik H H')(e:∀o,H w=some o->H' w=some o)(h:cV K H w s):cV K H' w s:=by
 obtain⟨gs,h1,h2⟩:=h;exact⟨gs,e _ h1,Paired.mapP h2 fun _ _ r=>aV.kt k r⟩
theorem vq{K:Za}{H:Hp}:∀{sg:Zb}{xs:List V},TKCs K H (sg.map oH) xs->xs=sg.map V.str
 |[],xs,h=>by rw[wK]at h;unfold TKCs at h;exact h
 |s::sg,xs,h=>by
  rw[bg]at h;unfold TKCs at h;obtain⟨v,us,rfl,h1,h2⟩:=h;unfold oH q_ at h1;rw[h1,vq h2]
  rfl
theorem Er{K:Za}{H:Hp}{sg:Zb}{a:V}(h:q_ K H (e_ sg) a):∃b,a=.ref b/\aV K H b (sg.map V.str):=by
 unfold e_ q_ at h;obtain⟨b,xs,rfl,h1,h2⟩:=h;rw[vq h2]at h1;exact⟨b,rfl,h1⟩
theorem preSum_eq{α:Type}(c:List (α×Int))(val:Nat->Int)(hv:∀(i:Nat) p,c[i]?=some p->val i=p.2):preSum val c.length=(c.map (·.2)).sum:=by
 have key:∀j,j<=c.length->preSum val j=((c.take j).map (·.2)).sum:=by
  intro j
  induction j with
  |zero=>intro _;rfl
  |succ j ih =>
   intro h;have hp:c[j]?=some c[j]:=cN (by omega);rw[take_snoc hp,ar,List.sum_append];show preSum val j+val j=_;rw[ih (by omega),hv j _ hp];simp
 have:=key c.length (ax _);rw[aS]at this;exact this
theorem BJ{K:Za}{H:Hp}:∀xs:List Str,TKIns K H (xs.map oH) (xs.map V.str)
 |[]=>by show TKIns K H [] [];unfold TKIns;rfl
 |x::xs=>by
  rw[bg,bg];unfold TKIns;refine⟨_,_,rfl,?_,BJ xs⟩;unfold oH me
  rfl
theorem aV.sq{K:Za}{H:Hp}{a:Addr}{xs:List V}(h:aV K H a xs):bE K H a xs:=h.imp .inl id
theorem nW{K:Za}{H:Hp}{a:Addr}{f:Zb}(h:aV K H a (f.map V.str)):me K H (e_ f) (.ref a):=by
 unfold e_ me;exact⟨a,_,rfl,aV.sq h,BJ f⟩
theorem Paired.rev{α β:Type}{R:α->β->Prop}:∀{a:List α}{b:List β},Paired R a b->Paired R a.reverse b.reverse
 |_,_,.nil=>.nil
 |_,_,.cons r t=>by
  rw[pE,pE];exact Paired.app (Paired.rev t) (.cons r .nil)
theorem DK{k:Nat}{fi:List Nat}{d l:Addr}{o:Obj}{u:HO}{n:Nat}{ent:Nat->Hp->V->V->Prop}{g:TG}{tc:TT}{te:TE}{σ:L2.St}{H1:Hp}{Q:Hp->Prop}(Pv:Nat->List V->Hp->Prop)(h0:Pv 0 [] (upd H1 l (.lst [])))
  (hl:∀i vs H,i<=n->Pv i vs H->H l=some (.lst vs)/\H d=some (.frz o u)) (hd:∀vs H,Pv n vs H->Q H)
  (hs:∀i vs H a b,i<n->Pv i vs H->ent i H a b->g a (dD k fi σ) H fun σ2 H4=>tc σ2 H4 fun b H5 =>
   if b=true then te σ2 H5 fun v H6=>H6 l=some (.lst vs)/\vs.length<aj/\∃m',m'<n-i/\Wc n Pv (i+1) m' (vs++[v]) (upd H6 l (.lst (vs++[v])))else ∃m',m'<n-i/\Wc n Pv (i+1) m' vs H5) :
  dO k fi σ (IZ d o u n ent) g tc te H1 l Q:=by
 refine jB n Pv h0 (fun i vs H hi p=>(hl i vs H hi p).1) (fun i vs H hi p=>⟨(hl i vs H (c6 hi) p).2,hi⟩) (fun vs H p=>⟨⟨(hl n vs H (ax _) p).2,ax _⟩,hd vs H p⟩) fun i vs H x H3 hi p y=>?_;obtain⟨rfl,b,en⟩:=y;exact hs i vs _ x b hi p en
theorem Paired.mapM{α β:Type}{F G:α->β->Prop}:∀{as:List α}{bs:List β},Paired F as bs->(∀a b,a∈as->F a b->G a b)->Paired G as bs
 |_,_,.nil,_=>.nil
 |_,_,.cons r t,h=>.cons (h _ _ dI r) (Mum.Paired.mapM t fun a b ha=>h a b (dX _ ha))
theorem pK{K:Za}{H:Hp}:∀{gs:Ze}{s:List Sg},Paired (fun g (sg:Sg)=>aV K H g (sg.map V.str)) gs s->DIns K H (s.map fB) (gs.map V.ref)
 |_,_,.nil=>by show DIns K H [] [];unfold DIns;rfl
 |_,_,.cons r t=>by
  rw[bg,bg];unfold DIns;exact⟨_,_,rfl,bx (aV.sq r),pK t⟩
theorem lb.find{H:Hp}{sg:Sg}:∀{kvs:List (TK×V)}{L:List (Sg×List Str)},lb H kvs L->((∀p∈L,p.1≠sg)/\a_ kvs (e_ sg)=none)∨∃p∈L,p.1=sg/\∃u,a_ kvs (e_ sg)=some (.ref u)/\H u=some (.tup (p.2.map V.str))
 |_,_,.nil=>.inl ⟨fun _ h=>(nomatch h),rfl⟩
 |kv::_,p::_,.cons ⟨e,u,e2,hu⟩ t=>by
  by_cases c:p.1=sg
  ·refine .inr ⟨p,dI,c,u,?_,hu⟩;rw[df (by rw[e,c]),e2]
  ·rw[cS (fun z=>c (eN (by rw[<-e,z])))];rcases lb.find t with⟨h1,h2⟩|⟨q,hq,h⟩
   ·exact .inl ⟨fun x hx=>(cy.1 hx).elim (fun z=>by rw[z];exact c) (h1 x),h2⟩
   ·exact .inr ⟨q,dX _ hq,h⟩
theorem lb.look{H:Hp}{kvs:List (TK×V)}{J0 J2 J4 f:Zb}{ds:List ak}(h:lb H kvs (stepsF J0 J2 J4 ds f)){sg:Sg}(hs:sg∈bD J0 J2):
  (behF J4 ds f sg=[]/\a_ kvs (e_ sg)=none)∨(behF J4 ds f sg≠[]/\∃u,a_ kvs (e_ sg)=some (.ref u)/\H u=some (.tup ((behF J4 ds f sg).map V.str))):=by
 rcases lb.find (sg:=sg) h with⟨h1,h2⟩|⟨p,hp,e,u,h1,h2⟩
 ·refine .inl ⟨?_,h2⟩;refine Classical.not_not.1 fun z=>h1 (sg,behF J4 ds f sg) ?_ rfl;exact fb.2 ⟨aL.2 ⟨sg,hs,rfl⟩,zzr1 z⟩
 ·obtain⟨h3,h4⟩:=fb.1 hp;obtain⟨s,_,rfl⟩:=aL.1 h3;cases e;exact .inr ⟨of_decide_eq_true h4,u,h1,h2⟩
def kn(K:Za):TS :=
 ap (oI K V0 V1 "machine")
 (oI K V0 (mZ) "known")
def kr:List Str:=["self","M"]
def jp(K:Za)(sp_steps_at:Sp):TS :=
 ap (cK (tB (ie K V1 (iD K V0 "known"))) (kf (iD K V0 "known") V1 (aN sp_steps_at (aZ (iD K V0 "machine") V1))) (bC))
 (aO (kL K (iD K V0 "known") V1))
def jF:List Str:=["self","face"]
def wW(K:Za):TS :=
 cK (Ea (aW (aD EN V0 (tC (.int 0)))) (aW (aD u8 V0 (tC (.int 4))))) (pS) (bC)
def yj:List Str:=["d"]
def CM(K:Za):TS :=
 ap (aI (tC (.int 1)) U1)
 (ap (eS (b0 K V0) U2 (aI (aD zf V1 V2) U1))
 (aO V1))
def DU:List Str:=["numbers","whole","number"]
def rq(K:Za)(C_KnownSteps:Addr)(sp_KnownSteps_init:Sp)(C_Machine:Addr)(sp_Machine_says:Sp):TS :=
 ap (oI K V0 (cA 1 [] (b0 K (bZ C_Machine "says" sp_Machine_says [] E0 V1 bL)) U0 (ic) (bR (aZ (tC (.str "say")) V0))) "says_signs")
 (ap (oI K V0 (vv C_KnownSteps sp_KnownSteps_init [] E0 (aA V1)) "known_steps")
 (oI K V0 (mZ) "known_counts"))
def rV:List Str:=["self","M"]
def nZ(K:Za)(C_KnownSteps:Addr)(sp_KnownSteps_steps_from:Sp):TS :=
 aO (bZ C_KnownSteps "steps_from" sp_KnownSteps_steps_from [] E0 (iD K V0 "known_steps") (aA V1))
def ph:List Str:=["self","face"]
def rk(K:Za)(a_HUSH:Addr)(C_Made:Addr)(sp_Made_steps_from:Sp):TS :=
 ap (aI (cA 1 [] (Fz K (bZ C_Made "steps_from" sp_Made_steps_from [] E0 V0 (aA V1))) U0 (aW (aD xz (aD (rL K) V0 (tC (.int 0))) (tC (.str "ask")))) V0) U2)
 (aO (aD kS (cA 1 [0] (b0 K V2) U0 (ic) (aD kS (dg (aA V0)) (iD K V1 "says_signs"))) (dg (aw (aD kS (iD K V0 "says_signs") (dg (aA (tC (.ref a_HUSH))))) bL))))
def rR:List Str:=["self","face","asks"]
def rm(K:Za)(sp_product:Sp)(C_Made:Addr)(sp_Made_count_at:Sp)(sp_Made_steps_from:Sp):TS :=
 ap (aI (bZ C_Made "steps_from" sp_Made_steps_from [] E0 V0 (aA V1)) U4)
 (aO (aN sp_product (aw (cA 1 [0,2,4] (b0 K V3) U0 (ic) (bZ C_Made "count_at" sp_Made_count_at [] E0 V1 (aZ (pZ K V3 V0) (aD qP V2 (tC (.int 1)))))) bL)))
def rS:List Str:=["self","face","d","signs","steps"]
def rp(K:Za)(C_Made:Addr)(sp_Made_kinds_at:Sp)(sp_Made_count_of:Sp):TS :=
 ap (cK (Ea (tB (yS V1)) (aW (aD xz V2 (tC (.int 0))))) (aO (tC (.int 1))) (bC))
 (ap (cK (tB (ie K (bR (aZ V1 V2)) (iD K V0 "known_counts"))) (ap (aI (cA 1 [1,2,0] (b0 K (bZ C_Made "kinds_at" sp_Made_kinds_at [] E0 V0 (aA V1))) U0 (ic) (bZ C_Made "count_of" sp_Made_count_of [] E0 V3 (du V1 V2 V0))) U3)
 (kf (iD K V0 "known_counts") (bR (aZ V1 V2)) (aD dh (tC (.int 1)) (gP (HL K) (aA V3))))) (bC))
 (aO (kL K (iD K V0 "known_counts") (bR (aZ V1 V2)))))
def rT:List Str:=["self","face","d","counts"]
def uN(K:Za)(sp_law_still_on:Sp):TS :=
 ap (aI V0 (iX K 4 (bm U3 (bm U4 (bm U5 (bm U6 (iO)))))))
 (ap (cK (aW (aD (u9 K) V2 (bR (aA (tC (.str "hush")))))) (ap (aI (cA 1 [] (b0 K V6) U0 (aW (aD IV (aD (hV K) (aD (hV K) V0 (tC (.int 1))) (tC (.int 0))) (tC (.str "ask")))) (aD (hV K) V0 (tC (.int 0)))) U7)
 (aO (gP (tL K) (aA (cA 1 [7] (Du K V1) U0 (aW (aD (tN K true) V0 V1)) V0))))) (bC))
 (ap (aI (aN sp_law_still_on (aw V6 (aw (cA 1 [1,2] (b0 K V6) U0 (yX (aW (aD (tN K false) (aD (hV K) V0 (tC (.int 0))) V1)) (aW (aD (u9 K) (aD (hV K) V0 (tC (.int 1))) V2))) (aD (hV K) V0 (tC (.int 2)))) bL))) U8)
 (aO (gP (tL K) (aA (cA 1 [8] (b0 K V5) U0 (aW (aD (tN K false) V0 V1)) V0))))))
def vd:List Str:=["told","face","sign","asks","says","rooms","doors","loud","there"]
def yP(K:Za)(sp_law_still_on:Sp):TS :=
 ap (aI (aN sp_law_still_on (aw (aD (rL K) V0 (tC (.int 3))) (aw (dg (aA (aD (rL K) (aD (rL K) V0 (tC (.int 2))) (tC (.int 0))))) bL))) U1)
 (aO (gP (tL K) (aw (cA 1 [1] (b0 K (aD (rL K) V0 (tC (.int 2)))) U0 (aW (aD (tN K false) V0 V1)) V0) bL)))
def z_:List Str:=["told","there"]
def pN(K:Za):TS :=
 ap (aI (cA 1 [] (b0 K (aD (rL K) V0 (tC (.int 1)))) U0 (ic) (bR (aZ (tC (.str "say")) V0))) U2)
 (ap (cK (tB (yS V1)) (aO (aD kS V2 (dg (aA (bR (aA (tC (.str "hush")))))))) (bC))
 (aO (aD kS (dg (aA (bR (aZ (tC (.str "ask")) V1)))) V2)))
def qw:List Str:=["told","ask","says"]
def yR(K:Za)(sp_law_behind:Sp):TS :=
 ap (cK (tB (ie K (bR (aZ V2 V3)) V1)) (kf V1 (bR (aZ V2 V3)) (aN sp_law_behind (du V0 V2 V3))) (bC))
 (aO (kL K V1 (bR (aZ V2 V3))))
def Ab:List Str:=["told","known","face","sign"]
def yQ(K:Za)(sp_law_after:Sp):TS :=
 aO (cA 1 [0,1,2] (b0 K (aD (rL K) V0 (tC (.int 0)))) U0 (aW (aD (Ip K) (aN sp_law_after (aw V1 (du V2 V3 (bR (aZ (tC (.str "ask")) V0))))) (bR (bL)))) V0)
def Aa:List Str:=["told","known","face"]
def yM(K:Za)(sp_law_part_signs:Sp)(sp_law_count:Sp)(sp_law_after:Sp):TS :=
 ap (aI (dg (bL)) U5)
 (ap (eS (b0 K (aN sp_law_part_signs (aZ V0 V3))) U6 (cT (Ad K "list" eI V5 (aw (aN sp_law_count (aw V0 (aw V1 (aZ (aN sp_law_after (aw V0 (du V1 V2 V6))) (aD qP V4 (tC (.int 1))))))) bL))))
 (aO V5))
def z7:List Str:=["told","known","face","ask","deep","found","sign"]
def yL(K:Za):TS :=
 ap (aI (tC (.int 1)) U1)
 (ap (eS (b0 K V0) U2 (aI (aD zf V1 V2) U1))
 (aO V1))
def z6:List Str:=["numbers","found","number"]
def wY(K:Za)(sp_law_asked:Sp)(sp_law_times:Sp)(sp_law_sizes:Sp):TS :=
 ap (cK (Ea (aW (aD (u9 K) V2 (bR (bL)))) (aW (aD xz V3 (tC (.int 0))))) (aO (tC (.int 1))) (bC))
 (ap (cK (tB (ie K (bR (aZ V2 V3)) V1)) (ap (aI (tC (.int 1)) U4)
 (ap (eS (b0 K (aD kS (aN sp_law_asked (du V0 V1 V2)) (dg (aA (tC .non))))) U5 (aI (aD dh V4 (aN sp_law_times (aA (aN sp_law_sizes (aw V0 (aw V1 (du V2 V5 V3))))))) U4))
 (kf V1 (bR (aZ V2 V3)) V4))) (bC))
 (aO (kL K V1 (bR (aZ V2 V3)))))
def ym:List Str:=["told","known","face","deep","many","ask"]
open Builtin.Int (intBits)
def kindsF(J0 J2 J4:Zb)(ds:List ak)(J8:Zb):List (List Sg) :=
 ((J0.filter fun a=>decide (behF J4 ds J8 (c8 a)≠[])).map fun a=>c8 a::J2.map cu)++[J2.map cu++[bF]]
def fg(l:List Int):Int:=l.foldl (· * ·) 1
def cntM(J0 J2 J4:Zb)(ds:List ak):Nat->List Str->Int
 |0,_=>1
 |d+1,J8=>if J8=[]then 1 else 1+((kindsF J0 J2 J4 ds J8).map fun k=>fg (k.map fun sg=>cntM J0 J2 J4 ds d (behF J4 ds J8 sg))).sum
theorem uw(J0 J2 J4:Zb)(ds:List ak):∀d,cntM J0 J2 J4 ds d []=1
 |0=>by unfold cntM;rfl
 |d+1=>by unfold cntM;rw[if_pos rfl]
theorem tO(l:List Int)(x:Int):fg (l++[x])=fg l * x:=by unfold fg;rw[List.foldl_append];rfl
def bB:Nat->Nat
 |0=>1
 |d+1=>5 * bB d+7
theorem vy{b:Nat}(l:List Int)(h:∀x∈l,intBits x<=b):intBits (fg l)<=1+l.length * b:=by
 have key:∀n,n<=l.length->intBits (fg (l.take n))<=1+n * b:=by
  intro n
  induction n with
  |zero=>intro _;show intBits 1<=1+0 * b;have:intBits 1<=1:=(by decide);omega
  |succ n ih =>
   intro hn;have e:l[n]?=some l[n]:=cN hn;rw[take_snoc e,tO];have h1:=intBits_mul_le (ih (by omega)) (h l[n] (List.getElem_mem _));rw[g8];omega
 have:=key l.length (ax _);rw[aS]at this;exact this
theorem yY{b:Nat}:∀(l:List Int),(∀x∈l,intBits x<=b)->intBits l.sum<=b+l.length
 |[],_=>by show intBits 0<=_;have:intBits 0<=0:=(by decide);omega
 |x::l,h=>by
  rw[mG,fG];have h1:=wd (h x dI) (yY l fun y hy=>h y (dX _ hy));omega
theorem vG{J0 J2 J4 J8:Zb}{ds:List ak}(h1:J0.length<=4):(kindsF J0 J2 J4 ds J8).length<=5:=by
 unfold kindsF;rw[aE,ai];have:=cM (fun a=>decide (behF J4 ds J8 (c8 a)≠[])) J0;show _+1<=5;omega
theorem qe{J0 J2 J4 J8:Zb}{ds:List ak}{k:List Sg}(h:k∈kindsF J0 J2 J4 ds J8):k.length=J2.length+1/\∀sg∈k,sg∈bD J0 J2:=by
 unfold kindsF at h;unfold bD;rcases br.1 h with h|h
 ·obtain⟨a,ha,rfl⟩:=aL.1 h;refine⟨by rw[fG,ai],fun sg hs=>?_⟩;rcases cy.1 hs with rfl|hs
  ·exact cL _ (cL _ (kB (fb.1 ha).1))
  ·exact cL _ (cZ _ hs)
 ·rw[cC.1 h];refine⟨by rw[aE,ai];rfl,fun sg hs=>?_⟩;rcases br.1 hs with hs|hs
  ·exact cL _ (cZ _ hs)
  ·exact cZ _ hs
theorem k7{J0 J2 J4:Zb}{ds:List ak}(h1:J0.length<=4)(h2:J2.length<=4):∀(d:Nat) (J8:Zb),intBits (cntM J0 J2 J4 ds d J8)<=bB d
 |0,_=>by unfold cntM bB;decide
 |d+1,J8=>by
  unfold cntM bB;split
  ·have:intBits 1<=1:=by decide
   omega
  ·have hp:∀x∈(kindsF J0 J2 J4 ds J8).map (fun k=>fg (k.map fun sg=>cntM J0 J2 J4 ds d (behF J4 ds J8 sg))),intBits x<=1+5 * bB d:=by
    intro x hx;obtain⟨k,hk,rfl⟩:=aL.1 hx;have:=vy (b:=bB d) (k.map fun sg=>cntM J0 J2 J4 ds d (behF J4 ds J8 sg)) fun y hy=>by
     obtain⟨sg,_,rfl⟩:=aL.1 hy;exact k7 h1 h2 d _
    rw[ai,(qe hk).1]at this;have h3:(J2.length+1) * bB d<=5 * bB d:=dW _ (by omega);omega
   have h3:=yY _ hp;rw[ai]at h3;have h4:=vG (J2:=J2) (J4:=J4) (ds:=ds) (J8:=J8) h1;have h5:=wd (show intBits (1:Int)<=1 by decide) h3;omega
theorem Ct:∀d,d<=4->bB d<=2000:=by
 intro d hd
 match d,hd with
 |0,_=>decide
 |1,_=>decide
 |2,_=>decide
 |3,_=>decide
 |4,_=>decide
inductive sp_product(vs:List V)(H:Hp)(Q:VK)(E:XK):Prop
 |mk (l:Addr) (ns:List Int) (b:Nat):(vs=[.ref l])->(H l=some (.lst (ns.map V.int)))->(∀x∈ns,intBits x<=b)->(b<=10000)->(ns.length<=1000)->(Q (.int (fg ns)) H)->sp_product vs H Q E
theorem ints_get{ns:List Int}{i:Nat}{x:V}(h:(ns.map V.int)[i]?=some x):∃n,ns[i]?=some n/\x=.int n:=by
 rw[de]at h;obtain⟨n,e,rfl⟩:=mF.1 h;exact⟨n,e,rfl⟩
theorem tK{K:Za}{vs:List V}{H:Hp}{Q:VK}{E:XK}(h:sp_product vs H Q E):CM K (be Q) (start DU vs) H:=by
 obtain⟨l,ns,b,rfl,hl,hb,b1,z,k⟩:=h;refine⟨_,rfl,l,rfl,⟨_,az.of hl⟩,?_⟩;refine cr (xs:=ns.map V.int) (fun i σ H'=>∃x2,σ=[some (.ref l),some (.int (fg (ns.take i))),x2]/\H'=H) ⟨_,rfl,rfl⟩ (fun i σ H' _ ⟨_,_,e⟩=>by rw[e];exact az.of hl) ?_ ?_
 ·rintro i y σ H' hi ⟨x2,rfl,rfl⟩;obtain⟨n,hn,rfl⟩:=ints_get hi;have hi':i<ns.length:=(bY.1 hn).1;have p:=vy (b:=b) (ns.take i) fun x hx=>hb x (fL hx);rw[aM,wm (by omega)]at p;refine⟨_,rfl,_,rfl,_,_,rfl,rfl,IntMulOk.of_le p (hb n (cc hn)) ?_,?_⟩
  ·have:i * b<=1000 * 10000:=Nat.mul_le_mul (by omega) b1;omega
  ·exact⟨_,by rw[take_snoc hn,tO];rfl,rfl⟩
 ·rintro σ H' ⟨x2,rfl,rfl⟩;rw[ai,aS];exact⟨_,rfl,k⟩
theorem Ex{K:Za}{vs:List V}{H:Hp}{Q:VK}{E:XK}(h:sp_product vs H Q E):yL K (be Q) (start z6 vs) H:=tK h
inductive ck(vs:List V)(H:Hp)(Q:VK)(E:XK):Prop
 |mk (d:Nat):(vs=[.int (d:Nat)])->(d<=4)->(Q .non H)->ck vs H Q E
theorem u4{K:Za}{vs:List V}{H:Hp}{Q:VK}{E:XK}(h:ck vs H Q E):wW K (be Q) (start yj vs) H:=by
 obtain⟨d,rfl,hd,k⟩:=h;refine⟨_,rfl,_,_,rfl,rfl,_,rfl,?_⟩;rw[zzr0 (by omega)];refine bj ⟨_,rfl,_,_,rfl,rfl,_,rfl,?_⟩;rw[zzr0 (by omega)];exact bj k
def Jm:HO->Bool
 |.dT _=>false
 |.frz _ _=>false
 |_=>true
def Kp(H H':Hp):Prop:=∀b o,H b=some o->Jm o=true->H' b=some o
theorem Kp.trans{H H1 H2:Hp}(a:Kp H H1)(b:Kp H1 H2):Kp H H2:=fun c o e n=>b c o (a c o e n) n
theorem Kp.kt{H H':Hp}(k:Kp H H'):ik H H':=fun b xs e=>k b _ e rfl
theorem ab.kp{H H':Hp}(S:ab H H'):Kp H H':=fun b o e _=>S b o e
theorem Kp.upd{H:Hp}{d:Addr}{o x:HO}(h:H d=some x)(n:Jm x=false):Kp H (upd H d o):=fun b u e z=>by
 rw[ah (fun q:b=d=>by rw[q,h]at e;cases e;rw[n]at z;cases z)];exact e
theorem Kp.exB{H H':Hp}{d:Addr}{x:HO}(h:H d=some x)(n:Jm x=false)(e:ca d H H'):Kp H H':=fun b u q z=>e b u q fun w=>by
 rw[w,h]at q;cases q;rw[n]at z;cases z
theorem oK{H H':Hp}{d:Addr}{x:HO}(k:∀o,H d=some o->H' d=some o)(h:Rd H d x):Rd H' d x:=h.imp (k _) fun⟨o,e⟩=>⟨o,k _ e⟩
theorem eg{kvs:List (TK×V)}{k:TK}{v:V}(h:a_ kvs k=some v):(k,v)∈kvs:=by
 unfold a_ at h;obtain⟨p,hp,rfl⟩:=mF.1 h;have h1:=List.mem_of_find?_eq_some hp;have h2:decide (p.1=k)=true:=by have:=List.find?_some hp;exact this
 rw[<-of_decide_eq_true h2];exact h1
def Gr(kv kv':List (TK×V)):Prop:=∀k v,a_ kv k=some v->a_ kv' k=some v
theorem Gr.refl(kv:List (TK×V)):Gr kv kv:=fun _ _ h=>h
theorem Gr.trans{a b c:List (TK×V)}(h:Gr a b)(k:Gr b c):Gr a c:=fun x v e=>k x v (h x v e)
theorem Gr.snoc{kv:List (TK×V)}{k:TK}{v:V}(h:a_ kv k=none):Gr kv (kv++[(k,v)]):=fun x w e=>by
 rw[<-iI v h,iB,if_neg (fun z=>by rw[z,h]at e;cases e)];exact e
structure KC(K:Za)(C:Addr):Prop where
 cls:CF K C
 a1:dH K C "machine"
 a2:dH K C "known"
structure IQ(Cm Ck:Addr)(H0:Hp)(y M kd:Addr)(J0 J2 J4:Zb)(ds:List ak):Prop where
 mach:bA Cm H0 M J0 J2 J4 ds
 ob:∃(dy:Addr) (fs:List (Str×V)),H0 y=some (.ins Ck dy fs)/\lk "machine" fs=some (.ref M)/\lk "known" fs=some (.ref kd)/\lk "steps_from" fs=none
 kdn:H0 kd=none
structure iZ(H0 H:Hp)(kd:Addr)(kv:List (TK×V))(J0 J2 J4:Zb)(ds:List ak)(n:Nat):Prop where
 same:ab H0 H
 hkd:H kd=some (.dT kv)
 kok:∀p∈kv,∃(J8:Zb) (d:Addr) (kvs:List (TK×V)),p=(e_ J8,.ref d)/\d≠kd/\H0 d=none/\Rd H d (.dT kvs)/\lb H kvs (stepsF J0 J2 J4 ds J8)
 len:kv.length<=n
theorem iZ.up{H0 H H':Hp}{kd:Addr}{kv:List (TK×V)}{J0 J2 J4:Zb}{ds:List ak}{n:Nat}(h:iZ H0 H kd kv J0 J2 J4 ds n)(S:ab H H'):iZ H0 H' kd kv J0 J2 J4 ds n :=
 ⟨h.same.trans S,S _ _ h.hkd,fun p hp=>by obtain⟨f,d,kvs,e,n1,n2,r,st⟩:=h.kok p hp;exact⟨f,d,kvs,e,n1,n2,oK (S d) r,st.kt (ab.kt S)⟩,h.len⟩
theorem iZ.more{H0 H:Hp}{kd:Addr}{kv:List (TK×V)}{J0 J2 J4:Zb}{ds:List ak}{n m:Nat}(h:iZ H0 H kd kv J0 J2 J4 ds n)(l:n<=m):iZ H0 H kd kv J0 J2 J4 ds m:=⟨h.same,h.hkd,h.kok,aG h.len l⟩
theorem iZ.frz{H0 H:Hp}{kd d:Addr}{o:Obj}{kv kvs:List (TK×V)}{k:TK}{J0 J2 J4:Zb}{ds:List ak}{n:Nat}(h:iZ H0 H kd kv J0 J2 J4 ds n)(v:a_ kv k=some (.ref d))(hd:H d=some (.dT kvs)):
  iZ H0 (upd H d (.frz o (.dT kvs))) kd kv J0 J2 J4 ds n:=by
 obtain⟨_,d1,_,e1,n1,n2,_,_⟩:=h.kok _ (eg v);injection e1 with _ e1;injection e1 with e1;subst e1;refine⟨fun b u e=>?_,by rw[ah n1.symm];exact h.hkd,fun p hp=>?_,h.len⟩
 ·rw[ah (ae e n2)];exact h.same _ _ e
 ·obtain⟨f,d2,kv2,e,q1,q2,r,st⟩:=h.kok p hp;refine⟨f,d2,kv2,e,q1,q2,?_,st.kt (ID hd)⟩;by_cases c:d2=d
  ·subst c;rcases r with r|⟨o',r⟩
   ·rw[hd]at r;cases r;exact .inr ⟨o,aa⟩
   ·rw[hd]at r;cases r
  ·exact oK (fun u e=>by rw[ah c];exact e) r
theorem iZ.keep{H0 H:Hp}{kd a:Addr}{o:HO}{kv:List (TK×V)}{J0 J2 J4:Zb}{ds:List ak}{n:Nat}(h:iZ H0 H kd kv J0 J2 J4 ds n)(ha:H a=some o)(na:a≠kd)(nv:∀k,(k,V.ref a)∉kv):iZ (upd H0 a o) H kd kv J0 J2 J4 ds n:=by
 refine⟨fun b u e=>?_,h.hkd,fun p hp=>?_,h.len⟩
 ·by_cases c:b=a
  ·subst c;rw[aa]at e;cases e;exact ha
  ·rw[ah c]at e;exact h.same _ _ e
 ·obtain⟨f,d2,kv2,e,q1,q2,r⟩:=h.kok p hp;refine⟨f,d2,kv2,e,q1,?_,r⟩;rw[ah (fun z=>nv (e_ f) (by rw[<-z,<-e];exact hp))];exact q2
inductive lI(Cm Ck:Addr)(vs:List V)(H:Hp)(Q:VK)(E:XK):Prop
 |mk (H0:Hp) (y M kd u:Addr) (kv:List (TK×V)) (n:Nat) (J8 J0 J2 J4:Zb) (ds:List ak):(vs=[.ref y,.ref u])->(IQ Cm Ck H0 y M kd J0 J2 J4 ds)->(iZ H0 H kd kv J0 J2 J4 ds n)->(H u=some (.tup (J8.map V.str)))->(∀r∈J8,r∈J4)->(J8.length<=1000)->(n<=1000000) ->
  (∀(d:Addr) (kv' kvs:List (TK×V)) (H':Hp),iZ H0 H' kd kv' J0 J2 J4 ds (n+1)->a_ kv' (e_ J8)=some (.ref d)->Rd H' d (.dT kvs)->lb H' kvs (stepsF J0 J2 J4 ds J8)->ca kd H H'->Gr kv kv'->Q (.ref d) H')->lI Cm Ck vs H Q E
theorem Db{K:Za}{Cm Ck:Addr}(c:KC K Ck){vs:List V}{H:Hp}{Q:VK}{E:XK}(h:lI Cm Ck vs H Q E):jp K (jJ Cm) (be Q) (start jF vs) H:=by
 obtain⟨H0,y,M,kd,u,kv,n,J8,J0,J2,J4,ds,rfl,St,Dy,hu,hsub,hz,hn,k⟩:=h;obtain⟨dy,fs,g0,l1,l2,l3⟩:=St.ob;have g:=Dy.same _ _ g0;have tk:me K H (e_ J8) (.ref u):=dL.isIn 8 (dk J8) (SignAt.tk hu);have g1:ky K H kd (.ref u) (a_ kv (e_ J8)):=.inr ⟨_,_,_,.inl Dy.hkd,rfl,tk,dk J8,rfl⟩;refine⟨_,rfl,_,rfl,y,Ck,dy,fs,.ref kd,rfl,g,c.cls,c.a2,l2,kd,_,rfl,g1,_,rfl,?_⟩;cases v:a_ kv (e_ J8)with
 |some w =>
  obtain⟨f,d,kvs,e,n1,n2,r,st⟩:=Dy.kok _ (eg v);injection e with e1 e2;cases eN e1;subst e2;refine bj ?_;rw[v]at g1;exact⟨_,rfl,y,Ck,dy,fs,.ref kd,rfl,g,c.cls,c.a2,l2,_,rfl,kd,_,rfl,g1,k d kv kvs H (Dy.more (by omega)) v r st (ca.refl _ _) (.refl _)⟩
 |none =>
  refine bX ?_;refine⟨_,rfl,y,Ck,dy,fs,.ref M,rfl,g,c.cls,c.a1,l1,_,rfl,M,u,J8,J0,J2,J4,ds,rfl,St.mach.same Dy.same,hu,hsub,hz,fun d kvs H1 hd st dn S1=>?_⟩;have D1:=Dy.up S1;have nd:d≠kd:=(ae Dy.hkd dn).symm;refine⟨_,rfl,y,Ck,dy,fs,.ref kd,rfl,S1 _ _ g,c.cls,c.a2,l2,_,rfl,kd,_,rfl,.inr ⟨_,e_ J8,u,D1.hkd,rfl,SignAt.tk (S1 _ _ hu),dk J8,?_,rfl⟩,?_⟩
  ·have:=Dy.len;rw[vj];omega
  rw[iI _ v];have kt:ik H1 (upd H1 kd (.dT (kv++[(e_ J8,.ref d)]))):=ID D1.hkd;have v2:a_ (kv++[(e_ J8,V.ref d)]) (e_ J8)=some (.ref d):=by rw[<-iI (.ref d) v,iB,if_pos rfl]
  have D2:iZ H0 (upd H1 kd (.dT (kv++[(e_ J8,.ref d)]))) kd (kv++[(e_ J8,.ref d)]) J0 J2 J4 ds (n+1):=by
   refine⟨fun b o e=>?_,aa,fun p hp=>?_,?_⟩
   ·rw[ah (ae e St.kdn)];exact D1.same _ _ e
   ·rcases br.1 hp with hp|hp
    ·obtain⟨f,d2,kv2,e,q1,q2,r,st'⟩:=D1.kok p hp;exact⟨f,d2,kv2,e,q1,q2,oK (fun o e=>by rw[ah q1];exact e) r,st'.kt kt⟩
    ·rw[cC.1 hp];exact⟨J8,d,kvs,rfl,nd,Dy.same.free dn,.inl (by rw[ah nd];exact hd),st.kt kt⟩
   ·rw[aE];show _+1<=_;have:=Dy.len;omega
  have g5:ky K (upd H1 kd (.dT (kv++[(e_ J8,.ref d)]))) kd (.ref u) (some (.ref d)):=.inr ⟨_,e_ J8,u,.inl aa,rfl,dL.isIn 8 (dk J8) (SignAt.tk (kt _ _ (S1 _ _ hu))),dk J8,v2.symm⟩;exact⟨_,rfl,y,Ck,dy,fs,.ref kd,rfl,D2.same _ _ g0,c.cls,c.a2,l2,_,rfl,kd,_,rfl,g5,k d _ kvs _ D2 v2 (.inl (by rw[ah nd];exact hd)) (st.kt kt) (fun b o e nb=>by rw[ah nb];exact S1 _ _ e) (.snoc v)⟩
inductive lH(Ck:Addr)(vs:List V)(H:Hp)(Q:VK)(E:XK):Prop
 |mk (x dx M:Addr):(vs=[.ref x,.ref M])->(H x=some (.ins Ck dx []))->(∀(kd:Addr) (fs:List (Str×V)) (H':Hp),H' x=some (.ins Ck dx fs)->lk "machine" fs=some (.ref M)->lk "known" fs=some (.ref kd)->lk "steps_from" fs=none->H' kd=some (.dT [])->H kd=none->ca x H H'->Q .non H')->lH Ck vs H Q E
theorem C_{K:Za}{Ck:Addr}(c:KC K Ck){vs:List V}{H:Hp}{Q:VK}{E:XK}(h:lH Ck vs H Q E):kn K (be Q) (start kr vs) H:=by
 obtain⟨x,dx,M,rfl,hx,k⟩:=h;refine⟨_,rfl,_,rfl,x,Ck,dx,[],rfl,hx,c.cls,c.a1,(by decide),?_⟩;obtain⟨H1,e1,hx1,X1⟩:=qj "machine" (.ref M) hx;rw[<-e1];have len1:(cO ("machine":Str) (.ref M) []).length<=1:=eB _ _ _;refine fun kd hkd=>⟨_,rfl,x,Ck,dx,_,rfl,kp hx1 hkd,c.cls,c.a2,by omega,?_⟩;obtain⟨H2,e2,hx2,X2⟩:=qj "known" (.ref kd) (kp (x:=.dT []) hx1 hkd);rw[<-e2];have nk:kd≠x:=(ae hx1 hkd).symm;refine k kd _ H2 hx2 ?_ ?_ ?_ (X2 _ _ aa nk) ?_ fun b o e n=>X2 _ _ (kp (X1 _ _ e n) hkd) n
 ·show gb _ _=_;repeat (rw[bw];first|rw[if_pos rfl] | rw[if_neg (by decide +kernel)])
 ·show gb _ _=_;repeat (rw[bw];first|rw[if_pos rfl] | rw[if_neg (by decide +kernel)])
 ·show gb _ _=_;repeat (rw[bw];first|rw[if_pos rfl] | rw[if_neg (by decide +kernel)])
  rfl
 ·cases e:H kd with
  |none=>rfl
  |some o=>have:=X1 _ _ e nk;rw[hkd]at this;cases this
def qp(J8:Zb)(d:Nat):TK:=.t [e_ J8,.k (some (.inl (d:Int)))]
theorem Cr{f g:Zb}{d e:Nat}(h:qp f d=qp g e):f=g/\d=e:=by
 unfold qp at h;injection h with h;injection h with h1 h2;injection h2 with h2 _;injection h2 with h2;injection h2 with h2;injection h2 with h2;exact⟨eN h1,by omega⟩
theorem dS(f:Zb)(d:Nat):(qp f d).depth<=8:=by
 show max (e_ f).depth (max 0 0)+1<=8;rw[jm];decide
structure DC(K:Za)(C:Addr):Prop where
 cls:CF K C
 a1:dH K C "says_signs"
 a2:dH K C "known_steps"
 a3:dH K C "known_counts"
structure ve(Cm Ck Cd:Addr)(H0:Hp)(x sl y M kd cd:Addr)(us:Ze)(J0 J2 J4:Zb)(ds:List ak):Prop where
 ks:IQ Cm Ck H0 y M kd J0 J2 J4 ds
 ob:∃(dx:Addr) (fs:List (Str×V)),H0 x=some (.ins Cd dx fs)/\lk "says_signs" fs=some (.ref sl)/\lk "known_steps" fs=some (.ref y)/\lk "known_counts" fs=some (.ref cd)/\∀f:Str,f≠"says_signs"->f≠"known_steps"->f≠"known_counts"->lk f fs=none
 hsl:H0 sl=some (.lst (us.map V.ref))
 sg:lc H0 us (J2.map cu)
 cdn:H0 cd=none
 ne:kd≠cd
structure cW(H0 H:Hp)(kd cd:Addr)(kv cv:List (TK×V))(J0 J2 J4:Zb)(ds:List ak)(n:Nat):Prop where
 ks:iZ H0 H kd kv J0 J2 J4 ds n
 ncd:∀k,(k,V.ref cd)∉kv
 hcd:H cd=some (.dT cv)
 cok:∀p∈cv,∃(J8:Zb) (d:Nat),p=(qp J8 d,.int (cntM J0 J2 J4 ds d J8))
 clen:cv.length<=n
section
variable{H0 H H1 H':Hp}{kd cd d:Addr}{o:Obj}{kv cv kvs:List (TK×V)}{k:TK}{J0 J2 J4:Zb}{ds:List ak}{n m:Nat}
theorem iZ.weak(S:ab H0 H1)(h:iZ H1 H kd kv J0 J2 J4 ds n):iZ H0 H kd kv J0 J2 J4 ds n :=
 ⟨S.trans h.same,h.hkd,fun p hp=>by obtain⟨f,d,kvs,e,n1,n2,r⟩:=h.kok p hp;exact⟨f,d,kvs,e,n1,S.free n2,r⟩,h.len⟩
theorem cW.up(h:cW H0 H kd cd kv cv J0 J2 J4 ds n)(S:ab H H'):cW H0 H' kd cd kv cv J0 J2 J4 ds n:=⟨h.ks.up S,h.ncd,S _ _ h.hcd,h.cok,h.clen⟩
theorem iZ.cell{f:Addr}{xs ys:List V}(h:iZ H0 H kd kv J0 J2 J4 ds n)(h0:H0 f=none)(hf:H f=some (.lst xs)):iZ H0 (L2.upd H f (.lst ys)) kd kv J0 J2 J4 ds n :=
 ⟨fun b o e=>by rw[ah (ae e h0)];exact h.same _ _ e,by rw[ah (fun z=>by have:=h.hkd;rw[z,hf]at this;cases this)];exact h.hkd,fun p hp=>by
  obtain⟨g,d,kvs,e,n1,n2,r,st⟩:=h.kok p hp;refine⟨g,d,kvs,e,n1,n2,oK (fun o e=>?_) r,st.kt (eU hf)⟩;rw[ah (fun z=>by rw[z]at r;rcases r with r|⟨_,r⟩<;>(rw[hf]at r;cases r))];exact e,h.len⟩
theorem cW.cell{f:Addr}{xs ys:List V}(h:cW H0 H kd cd kv cv J0 J2 J4 ds n)(h0:H0 f=none)(hf:H f=some (.lst xs)):cW H0 (L2.upd H f (.lst ys)) kd cd kv cv J0 J2 J4 ds n :=
 ⟨h.ks.cell h0 hf,h.ncd,by rw[ah (fun z=>by have:=h.hcd;rw[z,hf]at this;cases this)];exact h.hcd,h.cok,h.clen⟩
theorem cW.more(h:cW H0 H kd cd kv cv J0 J2 J4 ds n)(l:n<=m):cW H0 H kd cd kv cv J0 J2 J4 ds m:=⟨h.ks.more l,h.ncd,h.hcd,h.cok,aG h.clen l⟩
theorem cW.frz(h:cW H0 H kd cd kv cv J0 J2 J4 ds n)(v:a_ kv k=some (.ref d))(hd:H d=some (.dT kvs)):cW H0 (upd H d (.frz o (.dT kvs))) kd cd kv cv J0 J2 J4 ds n :=
 ⟨h.ks.frz v hd,h.ncd,by rw[ah (fun z=>h.ncd k (by rw[z];exact eg v))];exact h.hcd,h.cok,h.clen⟩
end
theorem cV.kp{K:Za}{H H':Hp}{w:Addr}{s:List Sg}(k:Kp H H')(h:cV K H w s):cV K H' w s:=by
 obtain⟨gs,h1,h2⟩:=h;exact⟨gs,k _ _ h1 rfl,Paired.mapP h2 fun _ _ r=>aV.kt k.kt r⟩
inductive gg(Cm Ck Cd:Addr)(vs:List V)(H:Hp)(Q:VK)(E:XK):Prop
 |mk (H0:Hp) (x sl y M kd cd u:Addr) (us:Ze) (kv cv:List (TK×V)) (n:Nat) (J8 J0 J2 J4:Zb) (ds:List ak):(vs=[.ref x,.ref u])->(ve Cm Ck Cd H0 x sl y M kd cd us J0 J2 J4 ds)->(cW H0 H kd cd kv cv J0 J2 J4 ds n)->(H u=some (.tup (J8.map V.str)))->(∀r∈J8,r∈J4)->(J8.length<=1000)->(n<=1000000) ->
  (∀(d:Addr) (kv' kvs:List (TK×V)) (H':Hp),cW H0 H' kd cd kv' cv J0 J2 J4 ds (n+1)->a_ kv' (e_ J8)=some (.ref d)->Rd H' d (.dT kvs)->lb H' kvs (stepsF J0 J2 J4 ds J8)->ca kd H H'->Gr kv kv'->Q (.ref d) H')->gg Cm Ck Cd vs H Q E
theorem C8{K:Za}{Cm Ck Cd:Addr}(c:DC K Cd){vs:List V}{H:Hp}{Q:VK}{E:XK}(h:gg Cm Ck Cd vs H Q E):nZ K Ck (lI Cm Ck) (be Q) (start ph vs) H:=by
 obtain⟨H0,x,sl,y,M,kd,cd,u,us,kv,cv,n,J8,J0,J2,J4,ds,rfl,St,Dy,hu,hsub,hz,hn,k⟩:=h;obtain⟨dx,fs,g0,l1,l2,l3,l4⟩:=St.ob;obtain⟨dy,fy,gy,m1,m2,m3⟩:=id St.ks.ob;have S0:ab H0 (upd H0 cd (.dT cv)):=ab.new St.cdn;have St':IQ Cm Ck (upd H0 cd (.dT cv)) y M kd J0 J2 J4 ds:=⟨St.ks.mach.same S0,⟨dy,fy,S0 _ _ gy,m1,m2,m3⟩,by rw[ah St.ne];exact St.ks.kdn⟩;refine⟨_,rfl,x,Cd,dx,fs,.ref y,rfl,Dy.ks.same _ _ g0,c.cls,c.a2,l2,y,dy,fy,rfl,Dy.ks.same _ _ gy,m3,_,rfl,upd H0 cd (.dT cv),y,M,kd,u,kv,n,J8,J0,J2,J4,ds,rfl,St',Dy.ks.keep Dy.hcd St.ne.symm Dy.ncd,hu,hsub,hz,hn,fun d kv' kvs H' D' v r st ex gr=>?_⟩;refine k d kv' kvs H' ⟨D'.weak S0,fun q hq=>?_,D'.same _ _ aa,Dy.cok,by have:=Dy.clen;omega⟩ v r st ex gr;obtain⟨_,_,_,e,_,z,_⟩:=D'.kok _ hq;injection e with _ e;injection e with e;rw[<-e,aa]at z;cases z
def iN(sg:Sg):Bool:=decide (sg.head?=some ("ask":Str))
theorem m8{J4 J8:Zb}{ds:List ak}{g:Str->Sg}{b:Bool}(hb:∀a,iN (g a)=b):∀A:List Str,((((A.map g).map fun sg=>(sg,behF J4 ds J8 sg)).filter fun p=>decide (p.2≠[])).filter fun p=>iN p.1).map (·.1)=if b=true then(A.filter fun a=>decide (behF J4 ds J8 (g a)≠[])).map g else[]
 |[]=>by cases b<;>rfl
 |a::A=>by
  have ih:=m8 (J4:=J4) (J8:=J8) (ds:=ds) hb A;rw[bg,bg];by_cases c:behF J4 ds J8 (g a)=[]
  ·rw[wc (by simp[c]),ih,wc (by simp[c])]
  ·rw[wb (by simp[c]),wb (p:=fun a=>decide (behF J4 ds J8 (g a)≠[])) (by simp[c])];cases b with
   |true=>rw[wb (by exact hb a),bg,ih];rfl
   |false=>rw[wc (by show ¬iN (g a)=true;rw[hb a];decide),ih];rfl
def askS(J0 J4:Zb)(ds:List ak)(J8:Zb):List Sg:=(J0.filter fun a=>decide (behF J4 ds J8 (c8 a)≠[])).map c8
theorem yZ(J0 J2 J4:Zb)(ds:List ak)(J8:Zb):((stepsF J0 J2 J4 ds J8).filter fun p=>iN p.1).map (·.1)=askS J0 J4 ds J8:=by
 unfold stepsF bD;rw[ar,ar,iy,iy,iy,iy,ar,ar,m8 (b:=true) (fun a=>by unfold iN c8;rfl),m8 (b:=false) (fun a=>by unfold iN cu;rfl)];rw[if_pos rfl,if_neg (by decide)];have:((([bF].map fun sg=>(sg,behF J4 ds J8 sg)).filter fun p=>decide (p.2≠[])).filter fun p=>iN p.1)=[]:=by
  rw[List.filter_eq_nil_iff];intro p hp;obtain⟨sg,hs,rfl⟩:=aL.1 (fb.1 hp).1;rw[cC.1 hs];show ¬iN bF=true
  decide
 rw[this,dY];show _++[]=_;rw[dY];rfl
theorem Gz{J0 J2:Zb}{sg:Sg}(h:sg∈bD J0 J2):∃s0 rest,sg=s0::rest:=by
 unfold bD at h;rcases br.1 h with h|h
 ·rcases br.1 h with h|h
  ·obtain⟨a,_,rfl⟩:=aL.1 h;exact⟨_,_,rfl⟩
  ·obtain⟨a,_,rfl⟩:=aL.1 h;exact⟨_,_,rfl⟩
 ·rw[cC.1 h];exact⟨_,_,rfl⟩
theorem CW{J0 J2 J4 J8:Zb}{ds:List ak}(m:cJ J0 J2 J4 ds):(stepsF J0 J2 J4 ds J8).length<=9:=by
 have z1:=m.asks4;have z2:=m.says4;unfold stepsF;refine aG (cM _ _) ?_;unfold bD;rw[ai,aE,aE,ai,ai];show _+1<=9;omega
abbrev Cz(K:Za)(H:Hp)(us:Ze)(L:List Sg):Prop:=Paired (fun s (sg:Sg)=>aV K H s (sg.map V.str)) us L
theorem Cz.kt{K:Za}{H H':Hp}{us:Ze}{L:List Sg}(k:ik H H')(h:Cz K H us L):Cz K H' us L:=Paired.mapP h fun _ _ r=>aV.kt k r
theorem vW{K:Za}{σ:L2.St}{H:Hp}{d l:Addr}{o:Obj}{kvs:List (TK×V)}{J0 J2 J4 J8:Zb}{ds:List ak}{Q:Hp->Prop}(m:cJ J0 J2 J4 ds)(hd:H d=some (.frz o (.dT kvs)))(st:lb H kvs (stepsF J0 J2 J4 ds J8))(hl:H l=none)
  (k:∀(us:Ze) (H':Hp),H' l=some (.lst (us.map V.ref))->Cz K H' us (askS J0 J4 ds J8)->ab H H'->Q H') :
  dO 1 [] σ (IZ d o (.dT kvs) kvs.length (Hj K kvs)) U0 (aW (aD xz (aD (rL K) V0 (tC (.int 0))) (tC (.str "ask")))) V0 H l Q:=by
 have zs:=CW (J8:=J8) m;refine DK (fun i vs H'=>∃us:List Addr,vs=us.map V.ref/\ab H H'/\H' l=some (.lst vs)/\Cz K H' us ((((stepsF J0 J2 J4 ds J8).take i).filter fun p=>iN p.1).map (·.1))) ⟨[],rfl,ab.new hl,aa,.nil⟩ (fun i vs H' _ ⟨_,_,S,h',_⟩=>⟨h',S _ _ hd⟩) ?_ ?_
 ·rintro vs H' ⟨us,rfl,S,h',hP⟩;rw[Paired.length st,aS,yZ]at hP;exact k us H' h' hP S
 ·rintro i vs H' a b hi ⟨us,rfl,S,h',hP⟩ ⟨key,ek,tkc⟩;obtain⟨p,hp,e,_⟩:=Paired.getL st ek;have e:key=e_ p.1:=e;rw[e]at tkc;obtain⟨s,rfl,tc⟩:=Er tkc;obtain⟨sg,hsg,ep⟩:=aL.1 (fb.1 (cc hp)).1;have e1:p.1=sg:=by rw[<-ep]
  obtain⟨s0,rest,e2⟩:=Gz hsg;have tc':=tc;rw[e1,e2]at tc';have hd':(decide (V.str s0=V.str ("ask":Str)))=iN p.1:=by
   unfold iN;rw[e1,e2];by_cases c:s0=("ask":Str)
   ·rw[c];simp
   ·rw[zzr0 (fun z=>c (by injection z)),zzr0 (fun z=>c (by simpa using z))]
  refine gN ?_;refine⟨_,rfl,.inr (.inl ⟨s,_,0,.str s0,rfl,rfl,aV.sq tc',aX (j:=0) rfl,rfl,_,rfl,?_⟩)⟩;rw[hd'];refine k3 (fun hq=>?_) (fun hq=>?_)
  ·refine⟨_,rfl,h',?_,ni hi ⟨us++[s],by rw[ar];rfl,?_,aa,?_⟩⟩
   ·rw[ai,Paired.length hP,ai];refine am (aG (cM _ _) ?_);rw[aM];omega
   ·intro b o q;rw[ah (ae q hl)];exact S _ _ q
   ·rw[take_snoc hp,iy,ar,wb (by exact hq)];have hk:ik H' (upd H' l (.lst (us.map V.ref++[.ref s]))):=eU h';exact ef (hP.kt hk) (aV.kt hk tc)
  ·refine ni hi ⟨us,rfl,S,h',?_⟩;rw[take_snoc hp,iy,ar,wc (by exact hq)];show Cz K H' us (_++[]);rw[dY];exact hP
theorem uc{K:Za}{Cm Ck Cd hu:Addr}(c:DC K Cd)(hh:∀H,bE K H hu (bF.map V.str)){H0 H:Hp}{x sl y M kd cd u al:Addr}{us as:Ze}{J0 J2 J4 J8:Zb}{ds:List ak}{Q:VK}{nx:L2.St->Hp->Prop}
  (St:ve Cm Ck Cd H0 x sl y M kd cd us J0 J2 J4 ds) (S:ab H0 H) (hal:H al=some (.lst (as.map V.ref))) (hA:Cz K H as (askS J0 J4 ds J8))
  (k:∀(l:Addr) (ks:Ze) (H':Hp),H' l=some (.lst (ks.map V.ref))->Paired (cV K H') ks (kindsF J0 J2 J4 ds J8)->ab H H'->Q (.ref l) H') :
  (aO (aD kS (cA 1 [0] (b0 K V2) U0 (ic) (aD kS (dg (aA V0)) (iD K V1 "says_signs"))) (dg (aw (aD kS (iD K V0 "says_signs") (dg (aA (tC (.ref hu))))) bL)))) { nx:=nx,rt:=Q } [some (.ref x),some (.ref u),some (.ref al)] H:=by
 obtain⟨dx,fs,g0,l1,l2,l3,l4⟩:=St.ob;have mo:=St.ks.mach.ok;have z1:=mo.asks4;have z2:=mo.says4;have zu:us.length<=4:=by rw[Paired.length St.sg,ai];exact z2
 have za:(askS J0 J4 ds J8).length<=4:=by unfold askS;rw[ai];exact aG (cM _ _) z1
 have sgT:∀{H':Hp},ab H0 H'->Cz K H' us (J2.map cu):=fun S'=>Paired.mapP (lc.kt (ab.kt S') St.sg) fun _ _ r=>.inl r;refine⟨_,rfl,al,rfl,⟨_,az.of hal⟩,fun kl hkl=>?_⟩;refine cx (xs:=as.map V.ref) (fun i vs H'=>∃ks:List Addr,vs=ks.map V.ref/\ab H H'/\H' kl=some (.lst vs)/\Paired (cV K H') ks (((askS J0 J4 ds J8).take i).map fun sg=>sg::J2.map cu)/\∀q∈ks,q≠kl) ⟨[],rfl,ab.new hkl,aa,.nil,fun _ h=>by cases h⟩ (fun i vs H' _ ⟨_,_,S',h',_⟩=>⟨h',az.of (S' _ _ hal)⟩) ?_ ?_;rotate_left
 ·rintro i vs H1 v hv hi ⟨ks,rfl,S1,h1,hK,nk⟩;obtain⟨s,hs,rfl⟩:=bQ hv;obtain⟨sg,hsg,hat⟩:=Paired.getL hA hs;refine gN (pH ?_);refine⟨_,rfl,(by show 1<=aj;decide),fun ll hll=>?_⟩;have S2:ab H1 (upd H1 ll (.lst [.ref s])):=ab.new hll;have ll2:upd H1 ll (.lst [.ref s]) ll=some (.lst [.ref s]):=aa;generalize upd H1 ll (.lst [.ref s])=H2 at S2 ll2 ⊢;have S02:=(S.trans S1).trans S2;refine⟨_,rfl,x,Cd,dx,fs,.ref sl,rfl,S02 _ _ g0,c.cls,c.a1,l1,ll,sl,_,_,rfl,rfl,ll2,S02 _ _ St.hsl,?_,fun c1 hc1=>?_⟩
  ·rw[ai];exact c6 (am (by show 1+_<=1000;omega))
  have S3:ab H2 (upd H2 c1 (.lst ([V.ref s]++us.map V.ref))):=ab.new hc1;have c3:upd H2 c1 (.lst ([V.ref s]++us.map V.ref)) c1=some (.lst ((s::us).map V.ref)):=aa;have nc:c1≠kl:=(ae (S2 _ _ h1) hc1).symm;generalize upd H2 c1 (.lst ([V.ref s]++us.map V.ref))=H3 at S3 c3 ⊢;have S13:=S2.trans S3;have S03:=(S.trans S1).trans S13;have kl3:=S13 _ _ h1;have hk:ik H3 (upd H3 kl (.lst (ks.map V.ref++[.ref c1]))):=eU kl3;refine⟨kl3,?_,ni hi ⟨ks++[c1],by rw[ar];rfl,?_,aa,?_,fun q hq=>?_⟩⟩
  ·rw[ai,Paired.length hK,ai,aM];exact am (by omega)
  ·intro b o q;rw[ah (ae q hkl)];exact S13 _ _ (S1 _ _ q)
  ·rw[take_snoc hsg,ar];have cell:∀{q:Addr}{L:List Sg},q≠kl->cV K H3 q L->cV K (upd H3 kl (.lst (ks.map V.ref++[.ref c1]))) q L:=fun n h=>h.kt hk fun o e=>by rw[ah n];exact e
   refine ef ?_ (cell nc ⟨s::us,c3,.cons (aV.kt (ab.kt (S1.trans S13)) hat) (sgT S03)⟩);refine Paired.mapM hK fun q L hq r=>cell (nk q hq) (r.kt (ab.kt S13) fun o e=>S13 _ _ e)
  ·rcases br.1 hq with hq|hq
   ·exact nk q hq
   ·rw[cC.1 hq];exact nc
 ·rintro vs H1 ⟨ks,rfl,S1,h1,hK,_⟩;rw[ai,Paired.length hA,aS]at hK;have S01:=S.trans S1;refine⟨_,rfl,x,Cd,dx,fs,.ref sl,rfl,S01 _ _ g0,c.cls,c.a1,l1,(by show 1<=aj;decide),fun hl hhl=>?_⟩;have S2:ab H1 (upd H1 hl (.lst [.ref hu])):=ab.new hhl;have hl2:upd H1 hl (.lst [.ref hu]) hl=some (.lst [.ref hu]):=aa;generalize upd H1 hl (.lst [.ref hu])=H2 at S2 hl2 ⊢;have S02:=S01.trans S2;refine⟨sl,hl,_,_,rfl,rfl,S02 _ _ St.hsl,hl2,?_,fun c2 hc2=>?_⟩
  ·rw[ai];exact c6 (am (by show _+1<=1000;omega))
  have S3:ab H2 (upd H2 c2 (.lst (us.map V.ref++[.ref hu]))):=ab.new hc2;have c3:upd H2 c2 (.lst (us.map V.ref++[.ref hu])) c2=some (.lst ((us++[hu]).map V.ref)):=by rw[aa,ar];rfl
  generalize upd H2 c2 (.lst (us.map V.ref++[.ref hu]))=H3 at S3 c3 ⊢;refine⟨(by show 1<=aj;decide),fun ol hol=>?_⟩;have S4:ab H3 (upd H3 ol (.lst [.ref c2])):=ab.new hol;have ol4:upd H3 ol (.lst [.ref c2]) ol=some (.lst [.ref c2]):=aa;generalize upd H3 ol (.lst [.ref c2])=H4 at S4 ol4 ⊢;have S14:=(S2.trans S3).trans S4;refine⟨kl,ol,_,_,rfl,rfl,S14 _ _ h1,ol4,?_,fun r hr=>?_⟩
  ·rw[ai,Paired.length hK,ai];exact c6 (am (by show _+1<=1000;omega))
  have S5:ab H4 (upd H4 r (.lst (ks.map V.ref++[.ref c2]))):=ab.new hr;refine k r (ks++[c2]) _ (by rw[aa,ar];rfl) ?_ ((S1.trans S14).trans S5);have S15:=S14.trans S5;have e:kindsF J0 J2 J4 ds J8=((askS J0 J4 ds J8).map fun sg=>sg::J2.map cu)++[J2.map cu++[bF]]:=by
   unfold kindsF askS;rw[jH];rfl
  rw[e];refine ef (Paired.mapP hK fun _ _ h=>h.kt (ab.kt S15) fun o e=>S15 _ _ e) ⟨us++[hu],S5 _ _ (S4 _ _ c3),?_⟩;exact Paired.app (sgT (S01.trans S15)) (.cons (nU hh _) .nil)
inductive ir(K:Za)(Cm Ck Cd:Addr)(vs:List V)(H:Hp)(Q:VK)(E:XK):Prop
 |mk (H0:Hp) (x sl y M kd cd u:Addr) (us:Ze) (kv cv:List (TK×V)) (n:Nat) (J8 J0 J2 J4:Zb) (ds:List ak):(vs=[.ref x,.ref u])->(ve Cm Ck Cd H0 x sl y M kd cd us J0 J2 J4 ds)->(cW H0 H kd cd kv cv J0 J2 J4 ds n)->(H u=some (.tup (J8.map V.str)))->(∀r∈J8,r∈J4)->(J8.length<=1000)->(n<=1000000) ->
  (∀(l:Addr) (ks:Ze) (kv':List (TK×V)) (H':Hp),H' l=some (.lst (ks.map V.ref))->Paired (cV K H') ks (kindsF J0 J2 J4 ds J8)->cW H0 H' kd cd kv' cv J0 J2 J4 ds (n+1)->Kp H H'->Gr kv kv'->Q (.ref l) H')->ir K Cm Ck Cd vs H Q E
theorem C5{K:Za}{Cm Ck Cd hu:Addr}(c:DC K Cd)(hh:∀H,bE K H hu (bF.map V.str)){vs:List V}{H:Hp}{Q:VK}{E:XK}(h:ir K Cm Ck Cd vs H Q E):rk K hu Cd (gg Cm Ck Cd) (be Q) (start rR vs) H:=by
 obtain⟨H0,x,sl,y,M,kd,cd,u,us,kv,cv,n,J8,J0,J2,J4,ds,rfl,St,Dy,hu',hsub,hz,hn,k⟩:=h;obtain⟨dx,fs,g0,l1,l2,l3,l4⟩:=St.ob;have mo:=St.ks.mach.ok;refine⟨_,rfl,x,dx,fs,rfl,Dy.ks.same _ _ g0,l4 "steps_from" (by decide +kernel) (by decide +kernel) (by decide +kernel),_,rfl,H0,x,sl,y,M,kd,cd,u,us,kv,cv,n,J8,J0,J2,J4,ds,rfl,St,Dy,hu',hsub,hz,hn,fun d kv' kvs H1 D1 v1 r1 st1 ex1 gr=>⟨d,kvs,rfl,?_⟩⟩;have kp1:Kp H H1:=Kp.exB Dy.ks.hkd rfl ex1;rcases r1 with r1|⟨o,r1⟩
 ·refine .inl ⟨r1,fun o l hl=>?_⟩;have D2:=D1.frz (o:=o) v1 r1;have kp2:Kp H1 (upd H1 d (.frz o (.dT kvs))):=Kp.upd r1 rfl;refine vW mo aa (st1.kt (ID r1)) hl fun as H2 h2 hA S2=>?_;exact uc c hh St (D2.ks.same.trans S2) h2 hA fun r ks H3 h3 hK S3=>k r ks kv' H3 h3 hK ((D2.up S2).up S3) ((kp1.trans kp2).trans (ab.kp (S2.trans S3))) gr
 ·refine .inr ⟨o,r1,fun l hl=>?_⟩;refine vW mo r1 st1 hl fun as H2 h2 hA S2=>?_;exact uc c hh St (D1.ks.same.trans S2) h2 hA fun r ks H3 h3 hK S3=>k r ks kv' H3 h3 hK ((D1.up S2).up S3) (kp1.trans (ab.kp (S2.trans S3))) gr
def nB:Nat->Nat
 |0=>0
 |d+1=>7+25 * nB d
def CD(H:Hp)(v:V)(J8:Zb):Prop:=(v=.non/\J8=[])∨∃u,v=.ref u/\H u=some (.tup (J8.map V.str))
inductive fM(Cm Ck Cd:Addr)(D:Nat)(vs:List V)(H:Hp)(Q:VK)(E:XK):Prop
 |mk (H0:Hp) (x sl y M kd cd:Addr) (us:Ze) (v:V) (kv cv:List (TK×V)) (n d:Nat) (J8 J0 J2 J4:Zb) (ds:List ak):(vs=[.ref x,v,.int (d:Nat)])->(d<=D)->(ve Cm Ck Cd H0 x sl y M kd cd us J0 J2 J4 ds)->(cW H0 H kd cd kv cv J0 J2 J4 ds n)->(CD H v J8)->(v≠.non->J8≠[])->(∀r∈J8,r∈J4)->(J8.length<=1000)->(n+nB d<=1000000) ->
  (∀(kv' cv':List (TK×V)) (H':Hp),cW H0 H' kd cd kv' cv' J0 J2 J4 ds (n+nB d)->Kp H H'->Gr kv kv'->Q (.int (cntM J0 J2 J4 ds d J8)) H')->fM Cm Ck Cd D vs H Q E
inductive gR(K:Za)(Cm Ck Cd:Addr)(D:Nat)(vs:List V)(H:Hp)(Q:VK)(E:XK):Prop
 |mk (H0:Hp) (x sl y M kd cd u kl:Addr) (us:Ze) (kv cv:List (TK×V)) (n d:Nat) (kind:List Sg) (J8 J0 J2 J4:Zb) (ds:List ak):(vs=[.ref x,.ref u,.int ((d+1:Nat)),.ref kl])->(d<=D)->(d<=4)->(ve Cm Ck Cd H0 x sl y M kd cd us J0 J2 J4 ds)->(cW H0 H kd cd kv cv J0 J2 J4 ds n)->(H u=some (.tup (J8.map V.str)))->(∀r∈J8,r∈J4)->(J8.length<=1000)->(cV K H kl kind)->(∀sg∈kind,sg∈bD J0 J2)->(kind.length<=5)->(n+1+5 * nB d<=1000000) ->
  (∀(kv' cv':List (TK×V)) (H':Hp),cW H0 H' kd cd kv' cv' J0 J2 J4 ds (n+1+5 * nB d)->Kp H H'->Gr kv kv'->Q (.int (fg (kind.map fun sg=>cntM J0 J2 J4 ds d (behF J4 ds J8 sg)))) H')->gR K Cm Ck Cd D vs H Q E
theorem zc{K:Za}{Cm Ck Cd:Addr}{D:Nat}{vs:List V}{H:Hp}{Q:VK}{E:XK}(h:gR K Cm Ck Cd D vs H Q E):rm K sp_product Cd (fM Cm Ck Cd D) (gg Cm Ck Cd) (be Q) (start rS vs) H:=by
 obtain⟨H0,x,sl,y,M,kd,cd,u,kl,us,kv,cv,n,d,kind,J8,J0,J2,J4,ds,rfl,hD,d4,St,Dy,hu,hsub,hz,hk,hin,zk,hn,k⟩:=h;obtain⟨dx,fs,g0,l1,l2,l3,l4⟩:=St.ob;have mo:=St.ks.mach.ok;have z1:=mo.asks4;have z2:=mo.says4;have z3:=mo.rooms26;refine⟨_,rfl,x,dx,fs,rfl,Dy.ks.same _ _ g0,l4 "steps_from" (by decide +kernel) (by decide +kernel) (by decide +kernel),_,rfl,H0,x,sl,y,M,kd,cd,u,us,kv,cv,n,J8,J0,J2,J4,ds,rfl,St,Dy,hu,hsub,hz,by omega,fun sd kv1 kvs H1 D1 v1 _ _ ex1 gr1=>?_⟩;have kp1:Kp H H1:=Kp.exB Dy.ks.hkd rfl ex1;obtain⟨ss,hkl,hss⟩:=hk;have kl1:=kp1 _ _ hkl rfl;refine⟨_,rfl,kl,rfl,⟨_,az.of kl1⟩,fun f hf=>?_⟩;refine cx (xs:=ss.map V.ref) (fun i vs H'=>∃(kv' cv':List (TK×V)),vs=((kind.take i).map fun sg=>cntM J0 J2 J4 ds d (behF J4 ds J8 sg)).map V.int/\H' f=some (.lst vs)/\Kp H1 H'/\cW H0 H' kd cd kv' cv' J0 J2 J4 ds (n+1+i * nB d)/\Gr kv1 kv')
  ⟨kv1,cv,rfl,aa,ab.kp (ab.new hf),(D1.up (ab.new hf)).more (by omega),.refl _⟩ (fun i vs H' _ ⟨_,_,_,h',kp',_⟩=>⟨h',az.of (kp' _ _ kl1 rfl)⟩) ?_ ?_
 rotate_left
 ·rintro i vs H2 w hw hi ⟨kv2,cv2,rfl,f2,kp2,D2,gr2⟩;obtain⟨s,hs,rfl⟩:=bQ hw;obtain⟨sg,hsg,hat⟩:=Paired.getL hss hs;have il:i<kind.length:=(bY.1 hsg).1;have hsi:=hin sg (cc hsg);have hat2:aV K H2 s (sg.map V.str):=aV.kt (kp1.trans kp2).kt hat;obtain⟨f',sd',kvs2,e',_,_,r2,st2⟩:=D2.ks.kok _ (eg (gr2 _ _ v1));injection e' with e1 e2;cases eN e1;cases e2;have gd:ky K H2 sd (.ref s) (a_ kvs2 (e_ sg)):=.inr ⟨_,e_ sg,s,r2,rfl,nW hat2,dk _,rfl⟩;have mul:(i+1) * nB d=i * nB d+nB d:=g8 _ _;have mul5:(i+1) * nB d<=5 * nB d:=dW _ (by omega);refine gN (pH ?_);refine⟨_,rfl,x,dx,fs,rfl,D2.ks.same _ _ g0,l4 "count_at" (by decide +kernel) (by decide +kernel) (by decide +kernel),_,rfl,sd,rfl,.inr ⟨_,r2⟩,_,rfl,_,gd,_,rfl,_,_,rfl,rfl,H0,x,sl,y,M,kd,cd,us,(a_ kvs2 (e_ sg)).getD .non,kv2,cv2,_,d,behF J4 ds J8 sg,J0,J2,J4,ds,?_,hD,St,D2,?_,?_,k9 hsub,jE (by omega) hz,by omega,fun kv3 cv3 H3 D3 kp3 gr3=>?_⟩
  ·show[V.ref x,_,V.int (((d+1:Nat):Int)-1)]=_;rw[show(((d+1:Nat):Int)-1)=(d:Nat) by omega]
  ·rcases st2.look hsi with⟨e1,e2⟩|⟨e1,u2,e2,e3⟩
   ·rw[e1,e2];exact .inl ⟨rfl,rfl⟩
   ·rw[e2];exact .inr ⟨u2,rfl,e3⟩
  ·rcases st2.look hsi with⟨e1,e2⟩|⟨e1,u2,e2,e3⟩
   ·rw[e2];exact fun z=>absurd rfl z
   ·exact fun _=>e1
  have f3:=kp3 _ _ f2 rfl;refine⟨f3,?_,ni hi ⟨kv3,cv3,?_,aa,?_,?_,gr2.trans gr3⟩⟩
  ·rw[ai,ai,aM];exact am (by omega)
  ·rw[take_snoc hsg,ar,ar];rfl
  ·exact fun b o e no=>by rw[ah (ae e hf)];exact kp3 _ _ (kp2 _ _ e no) no
  ·exact(D3.more (m:=n+1+(i+1) * nB d) (by omega)).cell (D1.ks.same.free hf) f3
 ·rintro vs H2 ⟨kv2,cv2,rfl,f2,kp2,D2,gr2⟩;rw[ai,Paired.length hss,aS]at f2;rw[ai,Paired.length hss]at D2;have m5:kind.length * nB d<=5 * nB d:=dW _ zk;refine⟨f,_,bB d,rfl,f2,fun z hz'=>?_,by have:=Ct d d4;omega,by rw[ai];omega,k kv2 cv2 H2 (D2.more (by omega)) (kp1.trans kp2) (gr1.trans gr2)⟩;obtain⟨sg,_,rfl⟩:=aL.1 hz';exact k7 z1 z2 d _
theorem zE{kvs:List (TK×V)}{k:TK}{v:V}{p:TK×V}(h:p∈dz kvs k v):p∈kvs∨p=(k,v):=by
 unfold dz at h;split at h
 ·obtain⟨q,hq,rfl⟩:=aL.1 h;split
  ·next e=>exact .inr (by rw[e])
  ·exact .inl hq
 ·rcases br.1 h with h|h
  ·exact .inl h
  ·exact .inr (cC.1 h)
theorem qo{H:Hp}{p u:Addr}{J8:Zb}{d:Nat}(hp:H p=some (.tup [.ref u,.int (d:Nat)]))(hu:H u=some (.tup (J8.map V.str))):dL H (qp J8 d) (.ref p):=by
 unfold qp dL;refine⟨p,_,rfl,hp,?_⟩;unfold TKAts;refine⟨_,_,rfl,SignAt.tk hu,?_⟩;unfold TKAts;refine⟨_,_,rfl,by unfold dL;rfl,by unfold TKAts;rfl⟩
section
variable{H0 H:Hp}{kd cd:Addr}{kv cv:List (TK×V)}{J0 J2 J4 J8:Zb}{ds:List ak}{n d:Nat}{w:V}
theorem cW.val(h:cW H0 H kd cd kv cv J0 J2 J4 ds n)(v:a_ cv (qp J8 d)=some w):w=.int (cntM J0 J2 J4 ds d J8):=by
 obtain⟨f,e,q⟩:=h.cok _ (eg v);injection q with q1 q2;obtain⟨rfl,rfl⟩:=Cr q1;exact q2
theorem cW.put(h:cW H0 H kd cd kv cv J0 J2 J4 ds n)(h0:H0 cd=none)(ne:kd≠cd):cW H0 (upd H cd (.dT (dz cv (qp J8 d) (.int (cntM J0 J2 J4 ds d J8))))) kd cd kv (dz cv (qp J8 d) (.int (cntM J0 J2 J4 ds d J8))) J0 J2 J4 ds (n+1):=by
 refine⟨⟨fun b o e=>by rw[ah (ae e h0)];exact h.ks.same _ _ e,by rw[ah ne];exact h.ks.hkd,fun p hp=>?_,Nat.le_succ_of_le h.ks.len⟩,h.ncd,aa,fun p hp=>?_,aG (fJ _ _ _) (Nat.succ_le_succ h.clen)⟩
 ·obtain⟨g,d,kvs,e,n1,n2,r,st⟩:=h.ks.kok p hp;exact⟨g,d,kvs,e,n1,n2,oK (fun o q=>by rw[ah (fun z=>h.ncd (e_ g) (by rw[<-z,<-e];exact hp))];exact q) r,st.kt (ID h.hcd)⟩
 ·rcases zE hp with hp|rfl
  ·exact h.cok p hp
  ·exact⟨_,_,rfl⟩
end
theorem EG{K:Za}{Cm Ck Cd:Addr}(c:DC K Cd){D:Nat}{spO:Sp}(d5:D<=4)(hO:∀m,D=m+1->spO=gR K Cm Ck Cd m){vs:List V}{H:Hp}{Q:VK}{E:XK}(h:fM Cm Ck Cd D vs H Q E):rp K Cd (ir K Cm Ck Cd) spO (be Q) (start rT vs) H:=by
 obtain⟨H0,x,sl,y,M,kd,cd,us,v,kv,cv,n,d,J8,J0,J2,J4,ds,rfl,hD,St,Dy,hv,hne,hsub,hz,hn,k⟩:=h;obtain⟨dx,fs,g0,l1,l2,l3,l4⟩:=St.ob;have mo:=St.ks.mach.ok;have z1:=mo.asks4;have z2:=mo.says4;have one:cntM J0 J2 J4 ds d J8=1->Q (.int 1) H:=fun e=>by
  have:=k kv cv H (Dy.more (by omega)) (fun _ _ e _=>e) (.refl _);rw[e]at this;exact this
 refine⟨_,rfl,_,rfl,?_⟩;rcases hv with⟨rfl,rfl⟩|⟨u,rfl,hu⟩
 ·refine bX ?_;refine bX ?_;exact one (uw _ _ _ _ _)
 have hne:=hne (by intro z;cases z);refine bj ?_;refine⟨_,rfl,rfl,_,rfl,?_⟩
 match d,hD,hn,k,one with
 |0,_,_,_,one =>
  refine bX ?_;exact one (by unfold cntM;rfl)
 |d+1,hD,hn,k,one =>
 rw[zzr0 (by intro z;injection z with z;omega)];refine bj ?_;obtain⟨m,rfl⟩:∃m,D=m+1:=⟨D-1,by omega⟩;cases hO m rfl;have eq:cntM J0 J2 J4 ds (d+1) J8=1+((kindsF J0 J2 J4 ds J8).map fun k=>fg (k.map fun sg=>cntM J0 J2 J4 ds d (behF J4 ds J8 sg))).sum:=by
  conv=>lhs;unfold cntM
  rw[if_neg hne]
 have nb:nB (d+1)=7+25 * nB d:=rfl;have fin:∀{kv' cv':List (TK×V)}{H':Hp}{σ3:Option V},cW H0 H' kd cd kv' cv' J0 J2 J4 ds (n+nB (d+1))->Kp H H'->Gr kv kv'->a_ cv' (qp J8 (d+1))=some (.int (cntM J0 J2 J4 ds (d+1) J8))->(aO (kL K (iD K V0 "known_counts") (bR (aZ V1 V2)))) (be Q) [some (.ref x),some (.ref u),some (.int ((d+1:Nat))),σ3] H':=by
  intro kv' cv' H' σ3 D' kp' gr' v';refine⟨_,rfl,x,Cd,dx,fs,.ref cd,rfl,D'.ks.same _ _ g0,c.cls,c.a3,l3,_,rfl,_,rfl,(by show 2<=aj;decide),fun p hp=>?_⟩;have S:ab H' (upd H' p (.tup [.ref u,.int ((d+1:Nat))])):=ab.new hp;have tk:=qo (d:=d+1) (aa (H:=H') (a:=p)) (S _ _ (kp' _ _ hu rfl));refine⟨cd,_,rfl,.inr ⟨_,qp J8 (d+1),p,.inl (S _ _ D'.hcd),rfl,dL.isIn 8 (dS _ _) tk,dS _ _,v'.symm⟩,k kv' cv' _ (D'.up S) (kp'.trans (ab.kp S)) gr'⟩
 refine⟨_,rfl,_,rfl,(by show 2<=aj;decide),fun p hp=>?_⟩;have S:ab H (upd H p (.tup [.ref u,.int ((d+1:Nat))])):=ab.new hp;have tk:=qo (d:=d+1) (aa (H:=H) (a:=p)) (S _ _ hu);generalize upd H p (.tup [.ref u,.int ((d+1:Nat))])=H1 at S tk ⊢;have D1:=Dy.up S;refine⟨_,rfl,x,Cd,dx,fs,.ref cd,rfl,D1.ks.same _ _ g0,c.cls,c.a3,l3,cd,_,rfl,.inr ⟨_,qp J8 (d+1),p,.inl D1.hcd,rfl,dL.isIn 8 (dS _ _) tk,dS _ _,rfl⟩,_,rfl,?_⟩;cases hval:a_ cv (qp J8 (d+1))with
 |some w =>
  refine bj ?_;exact fin (D1.more (by omega)) (ab.kp S) (.refl _) (by rw[hval,Dy.val hval])
 |none =>
  refine bX ?_;refine⟨_,rfl,x,dx,fs,rfl,D1.ks.same _ _ g0,l4 "kinds_at" (by decide +kernel) (by decide +kernel) (by decide +kernel),_,rfl,H0,x,sl,y,M,kd,cd,u,us,kv,cv,n,J8,J0,J2,J4,ds,rfl,St,D1,S _ _ hu,hsub,hz,by omega,fun l ks kv1 H2 hl hK D2 kp2 gr2=>⟨l,rfl,⟨_,az.of hl⟩,fun f hf=>?_⟩⟩;have u2:=kp2 _ _ (S _ _ hu) rfl;have kl:=vG (J2:=J2) (J4:=J4) (ds:=ds) (J8:=J8) z1;refine cx (xs:=ks.map V.ref) (fun i vs H'=>∃(kv' cv':List (TK×V)),vs=(((kindsF J0 J2 J4 ds J8).take i).map fun k=>fg (k.map fun sg=>cntM J0 J2 J4 ds d (behF J4 ds J8 sg))).map V.int/\H' f=some (.lst vs)/\Kp H2 H'/\cW H0 H' kd cd kv' cv' J0 J2 J4 ds (n+1+i * (1+5 * nB d))/\Gr kv1 kv')
   ⟨kv1,cv,rfl,aa,ab.kp (ab.new hf),(D2.up (ab.new hf)).more (by omega),.refl _⟩ (fun i vs H' _ ⟨_,_,_,h',kp',_⟩=>⟨h',az.of (kp' _ _ hl rfl)⟩) ?_ ?_
  rotate_left
  ·rintro i vs H3 w hw hi ⟨kv3,cv3,rfl,f3,kp3,D3,gr3⟩;obtain⟨q,hq,rfl⟩:=bQ hw;obtain⟨kind,hkd,hat⟩:=Paired.getL hK hq;have il:i<(kindsF J0 J2 J4 ds J8).length:=(bY.1 hkd).1;obtain⟨e1,e2⟩:=qe (cc hkd);have mul:(i+1) * (1+5 * nB d)=i * (1+5 * nB d)+(1+5 * nB d):=g8 _ _;have mul5:(i+1) * (1+5 * nB d)<=5 * (1+5 * nB d):=dW _ (by omega);refine gN (pH ?_);refine⟨_,rfl,x,dx,fs,rfl,D3.ks.same _ _ g0,l4 "count_of" (by decide +kernel) (by decide +kernel) (by decide +kernel),_,rfl,_,rfl,_,rfl,H0,x,sl,y,M,kd,cd,u,q,us,kv3,cv3,_,d,kind,J8,J0,J2,J4,ds,rfl,by omega,by omega,St,D3,kp3 _ _ u2 rfl,hsub,hz,hat.kp kp3,e2,by omega,by omega,fun kv4 cv4 H4 D4 kp4 gr4=>?_⟩;have f4:=kp4 _ _ f3 rfl;refine⟨f4,?_,ni hi ⟨kv4,cv4,?_,aa,?_,?_,gr3.trans gr4⟩⟩
   ·rw[ai,ai,aM];exact am (by omega)
   ·rw[take_snoc hkd,ar,ar];rfl
   ·exact fun b o e no=>by rw[ah (ae e hf)];exact kp4 _ _ (kp3 _ _ e no) no
   ·exact(D4.more (m:=n+1+(i+1) * (1+5 * nB d)) (by omega)).cell (D2.ks.same.free hf) f4
  ·rintro vs H3 ⟨kv3,cv3,rfl,f3,kp3,D3,gr3⟩;rw[ai,Paired.length hK,aS]at f3;rw[ai,Paired.length hK]at D3;have m5:(kindsF J0 J2 J4 ds J8).length * (1+5 * nB d)<=5 * (1+5 * nB d):=dW _ kl;have D3':cW H0 H3 kd cd kv3 cv3 J0 J2 J4 ds (n+6+25 * nB d):=D3.more (by omega);have kp13:Kp H H3:=(ab.kp S).trans (kp2.trans kp3);refine⟨_,rfl,f,_,rfl,az.of f3,_,_,rfl,rfl,_,rfl,x,Cd,dx,fs,.ref cd,rfl,D3.ks.same _ _ g0,c.cls,c.a3,l3,_,rfl,_,rfl,(by show 2<=aj;decide),fun p2 hp2=>?_⟩;have S4:ab H3 (upd H3 p2 (.tup [.ref u,.int ((d+1:Nat))])):=ab.new hp2;have tk4:=qo (d:=d+1) (aa (H:=H3) (a:=p2)) (S4 _ _ (kp13 _ _ hu rfl));generalize upd H3 p2 (.tup [.ref u,.int ((d+1:Nat))])=H4 at S4 tk4 ⊢;have D4:=D3'.up S4;have cl:=D4.clen;refine⟨cd,_,rfl,.inr ⟨_,qp J8 (d+1),p2,D4.hcd,rfl,tk4,dS _ _,by rw[vj];omega,rfl⟩,?_⟩;dsimp only;rw[<-eq];have D5:=D4.put (J8:=J8) (d:=d+1) St.cdn St.ne;refine fin (D5.more (by omega)) ((kp13.trans (ab.kp S4)).trans (Kp.upd D4.hcd rfl)) (gr2.trans gr3) ?_;rw[iB,if_pos rfl]
def iW(H:Hp)(a:Addr):Hp:=fun b=>if b=a then none else H b
theorem gm(H:Hp)(a:Addr):iW H a a=none:=if_pos rfl
theorem eM{H:Hp}{a b:Addr}(h:b≠a):iW H a b=H b:=if_neg h
theorem qi{H:Hp}{a:Addr}:ab (iW H a) H:=fun b o e=>by
 by_cases c:b=a
 ·rw[c,gm]at e;cases e
 ·rw[eM c]at e;exact e
theorem Cc{H0 H:Hp}{a:Addr}(S:ab H0 H)(h:H0 a=none):ab H0 (iW H a):=fun b o e=>by rw[eM (ae e h)];exact S _ _ e
inductive jr(Cm Ck Cd:Addr)(vs:List V)(H:Hp)(Q:VK)(E:XK):Prop
 |mk (H0:Hp) (x dx M:Addr) (J0 J2 J4:Zb) (ds:List ak):(vs=[.ref x,.ref M])->(H x=some (.ins Cd dx []))->(bA Cm H0 M J0 J2 J4 ds)->(H0 x=none)->(ab H0 H) ->
  (∀(Hs:Hp) (sl y kd cd:Addr) (us:Ze) (H':Hp),ve Cm Ck Cd Hs x sl y M kd cd us J0 J2 J4 ds->cW Hs H' kd cd [] [] J0 J2 J4 ds 0->ab H0 Hs->Q .non H')->jr Cm Ck Cd vs H Q E
theorem C7{K:Za}{Cm Ck Cd:Addr}(c:DC K Cd){vs:List V}{H:Hp}{Q:VK}{E:XK}(h:jr Cm Ck Cd vs H Q E):rq K Ck (lH Ck) Cm (lD Cm) (be Q) (start rV vs) H:=by
 obtain⟨H0,x,dx,M,J0,J2,J4,ds,rfl,hx,MA,hx0,S0,k⟩:=h;have up:∀{H1 H2:Hp}{o:HO},ab H0 H1->H2=upd H1 x o->ab H0 H2:=fun S e b o q=>by rw[e,ah (ae q hx0)];exact S _ _ q
 have z2:=MA.ok.says4;have M0:=MA.same S0;obtain⟨dm,fm,o1,o2,lv,lps,g1,a1,a2,_⟩:=m_ M0;refine⟨_,rfl,M,dm,fm,rfl,g1,a2,M,J0,J2,J4,ds,rfl,M0,fun w hw=>⟨w,rfl,⟨_,az.of aa⟩,fun sl hsl=>?_⟩⟩;have Sw:ab H (upd H w (.lst (J2.map V.str))):=ab.new hw;refine j3 (kd:="say") (ws:=J2) aa (by omega) hsl fun us H2 h2 hP2 S2=>?_;have Sa:=Sw.trans S2;refine⟨_,rfl,x,Cd,dx,[],rfl,Sa _ _ hx,c.cls,c.a1,(by decide),?_⟩;obtain⟨H3,e3,hx3,X3⟩:=qj "says_signs" (.ref sl) (Sa _ _ hx);rw[<-e3];have S3:=up (S0.trans Sa) e3;have len1:(cO ("says_signs":Str) (.ref sl) []).length<=1:=eB _ _ _;have nsl:sl≠x:=fun z=>by rw[z]at h2;rw[Sa _ _ hx]at h2;cases h2
 have sl3:=X3 _ _ h2 nsl;have kt3:ik H2 H3:=fun b xs e=>X3 _ _ e fun z=>by rw[z,Sa _ _ hx]at e;cases e
 have sg3:=lc.kt kt3 hP2;refine⟨_,rfl,fun y dy hy hdy ney=>?_⟩;have S4:ab H3 (upd (upd H3 dy (.own y)) y (.ins Ck dy [])):=fun b o e=>by rw[ah (ae e hy)];exact kp e hdy
 generalize hH4:upd (upd H3 dy (.own y)) y (.ins Ck dy [])=H4 at S4 ⊢;have y4:H4 y=some (.ins Ck dy []):=by rw[<-hH4];exact aa
 refine⟨y,dy,M,rfl,y4,fun kd fy H5 y5 m1 m2 m3 kd5 kdn ex5=>⟨rfl,?_⟩⟩;have n3:∀{b:Addr}{o:HO},H3 b=some o->H5 b=some o:=fun e=>ex5 _ _ (S4 _ _ e) (ae e hy);have hx5:=n3 hx3;refine⟨_,rfl,x,Cd,dx,_,rfl,hx5,c.cls,c.a2,by omega,?_⟩;obtain⟨H6,e6,hx6,X6⟩:=qj "known_steps" (.ref y) hx5;rw[<-e6];have S6:ab H0 H6:=up (fun b o e=>n3 (S3 _ _ e)) e6;have len2:=eB ("known_steps":Str) (.ref y) (cO ("says_signs":Str) (.ref sl) []);have nyx:y≠x:=(ae hx3 hy).symm;have nkx:kd≠x:=(ae (S4 _ _ hx3) kdn).symm;have y6:=X6 _ _ y5 nyx;have kd6:=X6 _ _ kd5 nkx;have sl6:=X6 _ _ (n3 sl3) nsl;have kt6:ik H3 H6:=fun b xs e=>X6 _ _ (n3 e) fun z=>by rw[z,hx3]at e;cases e
 have sg6:=lc.kt kt6 sg3;have kd0:H0 kd=none:=(S3.trans S4).free kdn;refine fun cd hcd=>⟨_,rfl,x,Cd,dx,_,rfl,kp hx6 hcd,c.cls,c.a3,by omega,?_⟩;obtain⟨H8,e8,hx8,X8⟩:=qj "known_counts" (.ref cd) (kp (x:=.dT []) hx6 hcd);rw[<-e8];have S8:ab H0 H8:=up (S6.trans (ab.new hcd)) e8;have ncx:cd≠x:=(ae hx6 hcd).symm;have cd8:=X8 _ _ aa ncx;have n8:∀{b:Addr}{o:HO},H6 b=some o->b≠x->H8 b=some o:=fun e n=>X8 _ _ (kp e hcd) n;have cd0:H0 cd=none:=S6.free hcd;have nkc:kd≠cd:=ae kd6 hcd;have kt8:ik H6 (iW (iW H8 kd) cd):=fun b xs e=>by
  rw[eM (ae e hcd),eM (fun z=>by rw[z,kd6]at e;cases e)];exact n8 e fun z=>by rw[z,hx6]at e;cases e
 have nd:∀{b:Addr}{o:HO},H8 b=some o->b≠kd->b≠cd->iW (iW H8 kd) cd b=some o:=fun e n1 n2=>by rw[eM n2,eM n1];exact e
 have ndk:∀{b:Addr}{o:HO},H6 b=some o->Jm o=true->b≠kd/\b≠cd:=fun e n=>⟨fun z=>(by rw[z,kd6]at e;cases e;cases n),ae e hcd⟩;have SH:ab H0 (iW (iW H8 kd) cd):=Cc (Cc S8 kd0) cd0;have SS:ab (iW (iW H8 kd) cd) H8:=qi.trans qi;refine k (iW (iW H8 kd) cd) sl y kd cd us H8 ⟨⟨MA.same SH,⟨dy,fy,?_,m1,m2,m3⟩,?_⟩,⟨dx,_,nd hx8 nkx.symm ncx.symm,?_,?_,?_,?_⟩,?_,lc.kt kt8 sg6,gm _ _,nkc⟩ ⟨⟨SS,n8 kd6 nkx,fun _ h=>(by cases h),ax _⟩,fun _ h=>(by cases h),cd8,fun _ h=>(by cases h),ax _⟩ SH
 ·obtain⟨q1,q2⟩:=ndk y6 rfl;exact nd (n8 y6 nyx) q1 q2
 ·rw[eM nkc];exact gm _ _
 ·show gb _ _=_;repeat (rw[bw];first|rw[if_pos rfl] | rw[if_neg (by decide +kernel)])
 ·show gb _ _=_;repeat (rw[bw];first|rw[if_pos rfl] | rw[if_neg (by decide +kernel)])
 ·show gb _ _=_;repeat (rw[bw];first|rw[if_pos rfl] | rw[if_neg (by decide +kernel)])
 ·intro f q1 q2 q3;show gb _ _=_;rw[bw,if_neg q3,bw,if_neg q2,bw,if_neg q1];rfl
 ·obtain⟨q1,q2⟩:=ndk sl6 rfl;exact nd (n8 sl6 nsl) q1 q2
open Classical in
theorem uy{J4:Zb}{ds:List ak}(h:J4≠[]):closF J4 ds (J4.take 1)≠[]:=by
 cases J4 with
 |nil=>exact absurd rfl h
 |cons r rs =>
  intro z;have:r∈closF (r::rs) ds ((r::rs).take 1):=fb.2 ⟨dI,zzr1 ⟨r,by simp,.inl rfl⟩⟩;rw[z]at this;cases this
theorem zS{K:Za}{fi:List Nat}{σ:L2.St}{H:Hp}{a th l:Addr}{ws F:Zb}{Q:Hp->Prop}(e:dD 1 fi σ=[none,some (.ref th)])(ha:H a=some (.lst (ws.map V.str)))(hth:H th=some (.lst (F.map V.str)))(hz:ws.length<=1000)(hl:H l=none)
  (k:∀H',H' l=some (.lst ((ws.filter fun r=>decide (r∈F)).map V.str))->ab H H'->Q H') :
  dO 1 fi σ (Gf K a) U0 (aW (aD (tN K false) V0 V1)) V0 H l Q:=by
 refine cx (xs:=ws.map V.str) (fun i vs H'=>vs=((ws.take i).filter fun r=>decide (r∈F)).map V.str/\ab H H'/\H' l=some (.lst vs)) ⟨rfl,ab.new hl,aa⟩ (fun i vs H' _ ⟨_,S,h'⟩=>⟨h',az.of (S _ _ ha)⟩) ?_ ?_
 ·rintro vs H' ⟨rfl,S,f'⟩;rw[ai,aS]at f';exact k H' f' S
 ·rintro i vs H' x' hx' hi ⟨rfl,S,f'⟩;obtain⟨r,hr,rfl⟩:=cq hx';rw[e];refine gN ?_;refine⟨_,rfl,_,rfl,eZ r,F.map eZ,th,_,qX r,rfl,.inl (az.of (S _ _ hth)),nq _,(by show 0<=8;decide),by rw[iQ];decide,_,rfl,?_⟩;rw[if_neg gX,xS];have hlen:(((ws.take i).filter fun r=>decide (r∈F)).map V.str).length<aj:=by
   rw[ai];refine am (aG (cM _ _) ?_);rw[aM];omega
  refine k3 (fun hq=>?_) (fun hq=>?_)
  ·refine⟨_,rfl,f',hlen,ni hi ⟨?_,?_,aa⟩⟩
   ·rw[b_ hr,if_pos hq,ar];rfl
   ·intro b o q;rw[ah (ae q hl)];exact S _ _ q
  ·refine ni hi ⟨?_,S,f'⟩;rw[b_ hr,if_neg hq,dY]
theorem GO{K:Za}{vs:List V}{H:Hp}{Q:VK}{E:XK}(h:xp K vs H Q E):uN K (gQ K) (be Q) (start vd vs) H:=by
 obtain⟨t,ft,s,l1,l2,l3,l4,ts,J0,J2,J4,J8,sg,ds,rfl,T,m,hft,hs,hz,k⟩:=h;have z3:=m.rooms26;have z4:=m.few;refine⟨_,rfl,t,_,rfl,bE.of T.t,rfl,_,_,rfl,_,_,rfl,_,_,rfl,_,_,rfl,rfl,?_⟩;refine⟨_,rfl,(by show 1<=aj;decide),fun hh hhh=>⟨fB sg,fB bF,bx (bE.same (ab.new hhh) hs),bx (bE.of aa),by rw[bv];decide,by rw[bv];decide,_,rfl,?_⟩⟩;rw[jZ];have Sn:ab H (upd H hh (.tup [.str "hush"])):=ab.new hhh;generalize upd H hh (.tup [.str "hush"])=H1 at Sn ⊢;have T1:=T.same Sn;have ft1:=Sn _ _ hft;have hs1:=bE.same Sn hs;by_cases c:sg=bF
 ·rw[zzr1 c];refine bX ?_;refine⟨_,rfl,l4,rfl,⟨_,az.of T1.a4⟩,fun f hf=>?_⟩;refine cx (xs:=ts.map V.ref) (fun i vs H'=>vs=(fS (ds.take i)).map V.str/\ab H1 H'/\H' f=some (.lst vs)) ⟨rfl,ab.new hf,aa⟩ (fun i vs H' _ ⟨_,S,h'⟩=>⟨h',az.of (S _ _ T1.a4)⟩) ?_ ?_;rotate_left
  ·rintro i vs H' x' hx' hi ⟨rfl,S,f'⟩;obtain⟨t',ht',rfl⟩:=bQ hx';obtain⟨dr,hdr,hat⟩:=Paired.getL T1.ds ht';obtain⟨s',ht2,hs2⟩:=hat.kt (ab.kt S);obtain⟨s0,rest,hsg,ea⟩:=CZ (m.good dr (cc hdr));unfold SignAt at hs2;rw[hsg]at hs2;refine gN ?_;refine⟨_,rfl,t',_,1,_,rfl,rfl,bE.of ht2,rfl,s',_,0,.str s0,rfl,rfl,bE.of hs2,aX (j:=0) rfl,rfl,_,rfl,?_⟩;rw[ea];refine k3 (fun hq=>?_) (fun hq=>?_)
   ·refine⟨_,rfl,t',_,0,_,rfl,rfl,bE.of ht2,rfl,f',?_,ni hi ⟨?_,?_,aa⟩⟩
    ·rw[ai];unfold fS;rw[ai];refine am (aG (cM _ _) ?_);rw[aM];omega
    ·rw[vE hdr,if_pos hq,ar];rfl
    ·intro b o q;rw[ah (ae q hf)];exact S _ _ q
   ·refine ni hi ⟨?_,S,f'⟩;rw[vE hdr,if_neg hq,dY]
  rintro vs H2 ⟨rfl,S2,f2⟩;rw[ai,Paired.length T1.ds,aS]at f2;have ft2:=S2 _ _ ft1;refine⟨_,rfl,ft,rfl,⟨_,bE.of ft2⟩,fun g hg=>?_⟩;refine pb (xs:=J8.map V.str) (fun i vs H'=>vs=((J8.take i).filter fun r=>decide (r∉fS ds)).map V.str/\ab H2 H'/\H' g=some (.lst vs)) ⟨rfl,ab.new hg,aa⟩ (fun i vs H' _ ⟨_,S,h'⟩=>⟨h',bE.of (S _ _ ft2)⟩) ?_ ?_
  ·rintro vs H' ⟨rfl,S,f'⟩;rw[ai,aS]at f';refine⟨g,_,rfl,.inl ⟨az.of f',fun t' ht'=>k t' _ ?_ (((Sn.trans S2).trans S).trans (ab.new ht'))⟩⟩;rw[aa];unfold behF;rw[if_pos c]
  ·rintro i vs H' x' hx' hi ⟨rfl,S,f'⟩;obtain⟨r,hr,rfl⟩:=cq hx';refine gN ?_;refine⟨_,rfl,_,rfl,eZ r,(fS ds).map eZ,f,_,qX r,rfl,.inl (az.of (S _ _ f2)),nq _,(by show 0<=8;decide),by rw[iQ];decide,_,rfl,?_⟩;rw[if_pos rfl,xS];have ed:(!decide (r∈fS ds))=decide (r∉fS ds):=by simp
   rw[ed];have hlen:(((J8.take i).filter fun r=>decide (r∉fS ds)).map V.str).length<aj:=by
    rw[ai];refine am (aG (cM _ _) ?_);rw[aM];omega
   refine k3 (fun hq=>?_) (fun hq=>?_)
   ·refine⟨_,rfl,f',hlen,ni hi ⟨?_,?_,aa⟩⟩
    ·rw[b_ hr,if_pos hq,ar];rfl
    ·intro b o q;rw[ah (ae q hg)];exact S _ _ q
   ·refine ni hi ⟨?_,S,f'⟩;rw[b_ hr,if_neg hq,dY]
 ·rw[zzr0 c];refine bj ?_;refine⟨_,rfl,_,rfl,l4,rfl,⟨_,az.of T1.a4⟩,fun f hf=>?_⟩;refine cx (xs:=ts.map V.ref) (fun i vs H'=>∃G:List Str,vs=G.map V.str/\ab H1 H'/\H' f=some (.lst vs)/\G.length<=i/\∀g,g∈G↔∃d∈ds.take i,d.a∈J8/\d.sg=sg/\d.b=g)
   ⟨[],rfl,ab.new hf,aa,ax _,fun g=>⟨fun h=>(by cases h),fun⟨_,h,_⟩=>by simp at h⟩⟩ (fun i vs H' _ ⟨_,_,S,h',_⟩=>⟨h',az.of (S _ _ T1.a4)⟩) ?_ ?_
  rotate_left
  ·rintro i vs H' x' hx' hi ⟨G,rfl,S,f',hl,hG⟩;obtain⟨u,hu,rfl⟩:=bQ hx';obtain⟨dr,hdr,hatd⟩:=Paired.getL T1.ds hu;obtain⟨sb,ht2,hs2⟩:=hatd.kt (ab.kt S);have hi':i<ds.length:=(bY.mp hdr).1;have hstep:∀g,(∃d∈ds.take (i+1),d.a∈J8/\d.sg=sg/\d.b=g)↔((∃d∈ds.take i,d.a∈J8/\d.sg=sg/\d.b=g)∨(dr.a∈J8/\dr.sg=sg/\dr.b=g)):=by
    intro g;rw[take_snoc hdr];simp only[br,cC,or_and_right,exists_or,exists_eq_left]
   have keep:¬(dr.a∈J8/\dr.sg=sg)->∃m',m'<(ts.map V.ref).length-i/\Wc (ts.map V.ref).length (fun i vs H'=>∃G:List Str,vs=G.map V.str/\ab H1 H'/\H' f=some (.lst vs)/\G.length<=i/\∀g,g∈G↔∃d∈ds.take i,d.a∈J8/\d.sg=sg/\d.b=g) (i+1) m' (G.map V.str) H':=by
    intro z;refine ni hi ⟨G,rfl,S,f',by omega,fun g=>?_⟩;rw[hstep,hG];exact⟨.inl,fun h=>h.elim id fun h=>absurd ⟨h.1,h.2.1⟩ z⟩
   refine gN ?_;refine⟨_,rfl,u,_,0,_,rfl,rfl,bE.of ht2,rfl,_,rfl,eZ dr.a,J8.map eZ,ft,_,qX _,rfl,.inr (bE.of (S _ _ ft1)),nq _,(by show 0<=8;decide),by rw[iQ];decide,_,rfl,?_⟩;rw[if_neg gX,xS];by_cases c1:dr.a∈J8;rotate_left
   ·rw[zzr0 c1];exact bj (bj (keep fun z=>c1 z.1))
   rw[zzr1 c1];refine bX ?_;refine⟨_,rfl,u,_,1,_,rfl,rfl,bE.of ht2,rfl,_,rfl,fB dr.sg,fB sg,bx (bE.of hs2),bx (bE.same S hs1),by rw[bv];decide,by rw[bv];decide,_,rfl,?_⟩;rw[jZ];by_cases c2:dr.sg=sg;rotate_left
   ·rw[zzr0 c2];exact bj (keep fun z=>c2 z.2)
   rw[zzr1 c2];refine bX ?_;refine⟨_,rfl,u,_,2,_,rfl,rfl,bE.of ht2,rfl,f',by rw[ai];exact am (by omega),ni hi ⟨G++[dr.b],by rw[ar];rfl,?_,aa,by rw[aE];show G.length+1<=i+1;omega,fun g=>?_⟩⟩
   ·intro b o q;rw[ah (ae q hf)];exact S _ _ q
   ·rw[hstep,<-hG,br];simp only[cC];exact⟨fun h=>h.imp id fun h=>⟨c1,c2,h.symm⟩,fun h=>h.imp id fun h=>h.2.2.symm⟩
  rintro vs H2 ⟨G,rfl,S2,f2,hl,hG⟩;rw[ai,Paired.length T.ds]at hl;rw[ai,Paired.length T.ds,aS]at hG;have T2:=T1.same S2;refine⟨l4,f,ts,ds,G,J4,rfl,T2.a4,T2.ds,f2,fun d hd=>(m.good d hd).b,by omega,by omega,fun th F H3 hth hF hFl fr S3=>?_⟩;have T3:=T2.same S3;refine⟨_,rfl,l3,rfl,⟨_,az.of T3.a3⟩,fun g hg=>?_⟩;refine zS rfl T3.a3 hth (by omega) hg fun H4 h4 S4=>?_;refine⟨g,_,rfl,.inl ⟨az.of h4,fun t' ht'=>k t' _ ?_ ((((Sn.trans S2).trans S3).trans S4).trans (ab.new ht'))⟩⟩;rw[aa,jD hF];unfold behF;rw[if_neg c]
  suffices e0:closF J4 ds G=closF J4 ds (dj ds sg J8) by rw[e0]
  refine zT fun g=>?_;rw[hG,oU];constructor
  ·rintro⟨⟨a,sgd,b⟩,hd,h1,h2,h3⟩;simp only at h1 h2 h3;subst h2 h3;exact⟨a,h1,hd⟩
  ·rintro⟨r,hr,h⟩;exact⟨_,h,hr,rfl,rfl⟩
inductive oA(vs:List V)(H:Hp)(Q:VK)(E:XK):Prop
 |mk (t l1 l2 l3 l4:Addr) (ts:Ze) (J0 J2 J4:Zb) (ds:List ak):(vs=[.ref t])->(ny H t l1 l2 l3 l4 ts J0 J2 J4 ds)->(cJ J0 J2 J4 ds)->(∀(t':Addr) (H':Hp),H' t'=some (.tup ((closF J4 ds (J4.take 1)).map V.str))->ab H H'->Q (.ref t') H')->oA vs H Q E
theorem EH{K:Za}{vs:List V}{H:Hp}{Q:VK}{E:XK}(h:oA vs H Q E):yP K (gQ K) (be Q) (start z_ vs) H:=by
 obtain⟨t,l1,l2,l3,l4,ts,J0,J2,J4,ds,rfl,T,m,k⟩:=h;have z3:=m.rooms26;obtain⟨r0,rs,e⟩:∃r0 rs,J4=r0::rs:=by
  cases e:J4 with
  |nil=>exact absurd e m.rooms0
  |cons a b=>exact⟨a,b,rfl⟩
 have at0:yb (J4.map V.str) 0=some (.str r0):=by rw[e];exact aX (j:=0) rfl
 have e1:J4.take 1=[r0]:=by rw[e];rfl
 refine⟨_,rfl,.inr (.inl ⟨t,_,3,_,rfl,rfl,bE.of T.t,rfl,_,rfl,.inr (.inl ⟨t,_,2,_,rfl,rfl,bE.of T.t,rfl,.inl ⟨l3,_,0,_,rfl,rfl,az.of T.a3,at0,(by show 1<=aj;decide),fun l hl=>?_⟩⟩)⟩)⟩;have S1:ab H (upd H l (.lst [.str r0])):=ab.new hl;have h1:upd H l (.lst [.str r0]) l=some (.lst ([r0].map V.str)):=aa;generalize upd H l (.lst [.str r0])=H1 at S1 h1 ⊢;have T1:=T.same S1;refine⟨l4,l,ts,ds,[r0],J4,rfl,T1.a4,T1.ds,h1,fun d hd=>(m.good d hd).b,by omega,by show 1<=1000;decide,fun th F H2 hth hF hFl fr S2=>?_⟩;have T2:=T1.same S2;refine⟨_,rfl,.inr (.inl ⟨t,_,2,_,rfl,rfl,bE.of T2.t,rfl,l3,rfl,⟨_,az.of T2.a3⟩,fun g hg=>?_⟩)⟩;refine zS rfl T2.a3 hth (by omega) hg fun H4 h4 S4=>?_;refine⟨g,_,rfl,.inl ⟨az.of h4,fun t' ht'=>k t' _ ?_ (((S1.trans S2).trans S4).trans (ab.new ht'))⟩⟩;rw[aa,jD hF,e1]

def DR:Option Str->V
 |none=>.non
 |some a=>.str a
def au(J2:Zb):Option Str->List Sg
 |none=>J2.map cu++[bF]
 |some a=>c8 a::J2.map cu
inductive on(vs:List V)(H:Hp)(Q:VK)(E:XK):Prop
 |mk (t l1 l2 l3 l4:Addr) (ts:Ze) (ask:Option Str) (J0 J2 J4:Zb) (ds:List ak):(vs=[.ref t,DR ask])->(ny H t l1 l2 l3 l4 ts J0 J2 J4 ds)->(J2.length<=4)->(∀(l:Addr) (us:Ze) (H':Hp),H' l=some (.lst (us.map V.ref))->lc H' us (au J2 ask)->ab H H'->Q (.ref l) H')->on vs H Q E
theorem EA{K:Za}{vs:List V}{H:Hp}{Q:VK}{E:XK}(h:on vs H Q E):pN K (be Q) (start qw vs) H:=by
 obtain⟨t,l1,l2,l3,l4,ts,ask,J0,J2,J4,ds,rfl,T,z2,k⟩:=h;refine⟨_,rfl,.inr (.inl ⟨t,_,1,_,rfl,rfl,bE.of T.t,rfl,l2,rfl,⟨_,az.of T.a2⟩,fun ls hls=>?_⟩)⟩;refine j3 (kd:="say") (ws:=J2) T.a2 (by omega) hls fun us H1 h1 hP S1=>?_;have zu:us.length<=4:=by rw[Paired.length hP,ai];exact z2
 refine⟨_,rfl,_,rfl,?_⟩;cases ask with
 |none =>
  refine bX ⟨_,rfl,(by show 1<=aj;decide),fun ht hht=>⟨(by show 1<=aj;decide),fun hl hhl=>?_⟩⟩;have S2:ab H1 (upd (upd H1 ht (.tup [.str "hush"])) hl (.lst [.ref ht])):=(ab.new hht).trans (ab.new hhl);have ht2:upd (upd H1 ht (.tup [.str "hush"])) hl (.lst [.ref ht]) ht=some (.tup (bF.map V.str)):=kp aa hhl;have hl2:upd (upd H1 ht (.tup [.str "hush"])) hl (.lst [.ref ht]) hl=some (.lst [.ref ht]):=aa;generalize upd (upd H1 ht (.tup [.str "hush"])) hl (.lst [.ref ht])=H2 at S2 ht2 hl2 ⊢;refine⟨ls,hl,_,_,rfl,rfl,S2 _ _ h1,hl2,by rw[ai];exact c6 (am (by show _+1<=1000;omega)),fun r hr=>?_⟩;have S3:ab H2 (upd H2 r (.lst (us.map V.ref++[.ref ht]))):=ab.new hr;exact k r (us++[ht]) _ (by rw[aa,ar];rfl) (Paired.app (lc.kt (ab.kt (S2.trans S3)) hP) (.cons (S3 _ _ ht2) .nil)) ((S1.trans S2).trans S3)
 |some a =>
  refine bj ⟨_,rfl,(by show 2<=aj;decide),fun ht hht=>⟨(by show 1<=aj;decide),fun hl hhl=>?_⟩⟩;have S2:ab H1 (upd (upd H1 ht (.tup [.str "ask",.str a])) hl (.lst [.ref ht])):=(ab.new hht).trans (ab.new hhl);have ht2:upd (upd H1 ht (.tup [.str "ask",.str a])) hl (.lst [.ref ht]) ht=some (.tup ((c8 a).map V.str)):=kp aa hhl;have hl2:upd (upd H1 ht (.tup [.str "ask",.str a])) hl (.lst [.ref ht]) hl=some (.lst [.ref ht]):=aa;generalize hH2:upd (upd H1 ht (.tup [.str "ask",.str a])) hl (.lst [.ref ht])=H2 at S2 ht2 hl2;have S2':=S2;refine⟨_,rfl,hl,ls,_,_,rfl,rfl,(by show upd (upd H1 ht (.tup [.str "ask",.str a])) hl (.lst [.ref ht]) hl=_;exact aa),(by show upd (upd H1 ht (.tup [.str "ask",.str a])) hl (.lst [.ref ht]) ls=_;rw[hH2];exact S2 _ _ h1),by rw[ai];exact c6 (am (by show 1+_<=1000;omega)),fun r hr=>?_⟩
  change upd (upd H1 ht (.tup [.str "ask",.str a])) hl (.lst [.ref ht]) r=none at hr
  show Q (.ref r) (upd (upd (upd H1 ht (.tup [.str "ask",.str a])) hl (.lst [.ref ht])) r (.lst ([.ref ht]++us.map V.ref)));rw[hH2]at hr ⊢;have S3:ab H2 (upd H2 r (.lst ([.ref ht]++us.map V.ref))):=ab.new hr;exact k r (ht::us) _ aa (.cons (S3 _ _ ht2) (lc.kt (ab.kt (S2.trans S3)) hP)) ((S1.trans S2).trans S3)
def yu(J8:Zb)(sg:Sg):TK:=.t [e_ J8,e_ sg]
theorem Hw{f g:Zb}{a b:Sg}(h:yu f a=yu g b):f=g/\a=b:=by
 unfold yu at h;injection h with h;injection h with h1 h2;injection h2 with h2 _;exact⟨eN h1,eN h2⟩
theorem Cy{f g:Zb}{a:Sg}{d:Nat}(h:yu f a=qp g d):False:=by
 unfold yu qp e_ at h;injection h with h;injection h with h1 h2;injection h2 with h2 _;cases h2
theorem jA(f:Zb)(a:Sg):(yu f a).depth<=8:=by
 show max (e_ f).depth (max (e_ a).depth 0)+1<=8;rw[jm,jm];decide
theorem Bi{H:Hp}{p u s:Addr}{J8:Zb}{sg:Sg}(hp:H p=some (.tup [.ref u,.ref s]))(hu:H u=some (.tup (J8.map V.str)))(hs:H s=some (.tup (sg.map V.str))):dL H (yu J8 sg) (.ref p):=by
 unfold yu dL;refine⟨p,_,rfl,hp,?_⟩;unfold TKAts;refine⟨_,_,rfl,SignAt.tk hu,?_⟩;unfold TKAts;exact⟨_,_,rfl,SignAt.tk hs,by unfold TKAts;rfl⟩
def IM(X:TK×V->Prop):Prop:=∀p,X p->(∀f s,p.1≠yu f s)/\∀f d,p.1≠qp f d
structure eV(X:TK×V->Prop)(H:Hp)(kd:Addr)(kv:List (TK×V))(J0 J2 J4:Zb)(ds:List ak)(n:Nat):Prop where
 hkd:H kd=some (.dT kv)
 kok:∀p∈kv,(∃(J8:Zb) (sg:Sg) (u:Addr),p=(yu J8 sg,.ref u)/\H u=some (.tup ((behF J4 ds J8 sg).map V.str)))∨(∃(J8:Zb) (d:Nat),p=(qp J8 d,.int (cntM J0 J2 J4 ds d J8)))∨X p
 len:kv.length<=n
section
variable{X:TK×V->Prop}{H H':Hp}{kd f:Addr}{kv:List (TK×V)}{J0 J2 J4 J8:Zb}{ds:List ak}{n m:Nat}
theorem eV.kt(h:eV X H kd kv J0 J2 J4 ds n)(e:H' kd=some (.dT kv))(k:ik H H'):eV X H' kd kv J0 J2 J4 ds n:=⟨e,fun p hp=>(h.kok p hp).imp (fun⟨f,s,u,e,q⟩=>⟨f,s,u,e,k _ _ q⟩) id,h.len⟩
theorem eV.up(h:eV X H kd kv J0 J2 J4 ds n)(S:ab H H'):eV X H' kd kv J0 J2 J4 ds n:=h.kt (S _ _ h.hkd) (ab.kt S)
theorem eV.more(h:eV X H kd kv J0 J2 J4 ds n)(l:n<=m):eV X H kd kv J0 J2 J4 ds m:=⟨h.hkd,h.kok,aG h.len l⟩
theorem eV.cell{xs ys:List V}(h:eV X H kd kv J0 J2 J4 ds n)(hf:H f=some (.lst xs)):eV X (upd H f (.lst ys)) kd kv J0 J2 J4 ds n:=h.kt (by rw[ah (fun z=>by have:=h.hkd;rw[z,hf]at this;cases this)];exact h.hkd) (eU hf)
theorem eV.put{k:TK}{v:V}(h:eV X H kd kv J0 J2 J4 ds n)(q:(∃(J8:Zb) (sg:Sg) (u:Addr),(k,v)=(yu J8 sg,.ref u)/\H u=some (.tup ((behF J4 ds J8 sg).map V.str)))∨(∃(J8:Zb) (d:Nat),(k,v)=(qp J8 d,.int (cntM J0 J2 J4 ds d J8)))∨X (k,v)):
  eV X (upd H kd (.dT (dz kv k v))) kd (dz kv k v) J0 J2 J4 ds (n+1):=by
 have kt:ik H (upd H kd (.dT (dz kv k v))):=ID h.hkd;refine⟨aa,fun p hp=>?_,aG (fJ _ _ _) (Nat.succ_le_succ h.len)⟩;rcases zE hp with hp|rfl
 ·exact(h.kok p hp).imp (fun⟨f,s,u,e,q⟩=>⟨f,s,u,e,kt _ _ q⟩) id
 ·exact q.imp (fun⟨f,s,u,e,q⟩=>⟨f,s,u,e,kt _ _ q⟩) id
theorem eV.val(hX:IM X){sg:Sg}{w:V}(h:eV X H kd kv J0 J2 J4 ds n)(v:a_ kv (yu J8 sg)=some w):∃u,w=.ref u/\H u=some (.tup ((behF J4 ds J8 sg).map V.str)):=by
 rcases h.kok _ (eg v)with⟨f,s,u,e,q⟩|⟨f,d,e⟩|hx
 ·injection e with e1 e2;obtain⟨rfl,rfl⟩:=Hw e1;exact⟨u,e2,q⟩
 ·injection e with e1 _;exact(Cy e1).elim
 ·exact absurd rfl ((hX _ hx).1 J8 sg)
theorem eV.cnt(hX:IM X){d:Nat}{w:V}(h:eV X H kd kv J0 J2 J4 ds n)(v:a_ kv (qp J8 d)=some w):w=.int (cntM J0 J2 J4 ds d J8):=by
 rcases h.kok _ (eg v)with⟨f,s,u,e,q⟩|⟨f,d',e⟩|hx
 ·injection e with e1 _;exact(Cy e1.symm).elim
 ·injection e with e1 e2;obtain⟨rfl,rfl⟩:=Cr e1;exact e2
 ·exact absurd rfl ((hX _ hx).2 J8 d)
end
theorem ca.sameH{p:Addr}{H0 H H':Hp}(S:ab H0 H)(h:H0 p=none)(e:ca p H H'):ab H0 H':=fun b o q=>e b o (S b o q) (ae q h)
theorem ab.exBs{p:Addr}{H H':Hp}(S:ab H H'):ca p H H':=fun b o e _=>S b o e
theorem ca.trs{p:Addr}{H H1 H2:Hp}(a:ca p H H1)(b:ca p H1 H2):ca p H H2:=fun c o e n=>b c o (a c o e n) n
theorem ca.ktd{p:Addr}{H H':Hp}{kv:List (TK×V)}(h:H p=some (.dT kv))(e:ca p H H'):ik H H':=fun b xs q=>e b _ q fun z=>by rw[z,h]at q;cases q
inductive kP(K:Za)(vs:List V)(H:Hp)(Q:VK)(E:XK):Prop
 |mk (X:TK×V->Prop) (hX:IM X) (H0:Hp) (t l1 l2 l3 l4 kd fu su:Addr) (ts:Ze) (kv:List (TK×V)) (n:Nat) (sg:Sg) (J8 J0 J2 J4:Zb) (ds:List ak):(vs=[.ref t,.ref kd,.ref fu,.ref su])->(ny H0 t l1 l2 l3 l4 ts J0 J2 J4 ds)->(cJ J0 J2 J4 ds)->(H0 kd=none)->(ab H0 H)->(eV X H kd kv J0 J2 J4 ds n)->(H fu=some (.tup (J8.map V.str)))->(H su=some (.tup (sg.map V.str)))->(J8.length<=1000)->(n<=8000000) ->
  (∀(u:Addr) (kv':List (TK×V)) (H':Hp),H' u=some (.tup ((behF J4 ds J8 sg).map V.str))->eV X H' kd kv' J0 J2 J4 ds (n+1)->ca kd H H'->Q (.ref u) H')->kP K vs H Q E
theorem EJ{K:Za}{vs:List V}{H:Hp}{Q:VK}{E:XK}(h:kP K vs H Q E):yR K (xp K) (be Q) (start Ab vs) H:=by
 obtain⟨X,hX,H0,t,l1,l2,l3,l4,kd,fu,su,ts,kv,n,sg,J8,J0,J2,J4,ds,rfl,T,m,h0,S0,D,hf,hs,hz,hn,k⟩:=h;have fin:∀{kv':List (TK×V)}{H':Hp}{u:Addr},eV X H' kd kv' J0 J2 J4 ds (n+1)->ca kd H H'->a_ kv' (yu J8 sg)=some (.ref u)->H' u=some (.tup ((behF J4 ds J8 sg).map V.str))->(aO (kL K V1 (bR (aZ V2 V3)))) (be Q) [some (.ref t),some (.ref kd),some (.ref fu),some (.ref su)] H':=by
  intro kv' H' u D' ex v' hu;refine⟨_,rfl,_,rfl,_,rfl,(by show 2<=aj;decide),fun p hp=>?_⟩;have S:ab H' (upd H' p (.tup [.ref fu,.ref su])):=ab.new hp;have kt:=ca.ktd D.hkd ex;have tk:=Bi (aa (H:=H') (a:=p)) (S _ _ (kt _ _ hf)) (S _ _ (kt _ _ hs));exact⟨kd,_,rfl,.inr ⟨_,yu J8 sg,p,.inl (S _ _ D'.hkd),rfl,dL.isIn 8 (jA _ _) tk,jA _ _,v'.symm⟩,k u kv' _ (S _ _ hu) (D'.up S) (ex.trs (ab.exBs S))⟩
 refine⟨_,rfl,_,rfl,(by show 2<=aj;decide),fun p hp=>?_⟩;have S:ab H (upd H p (.tup [.ref fu,.ref su])):=ab.new hp;have tk:=Bi (aa (H:=H) (a:=p)) (S _ _ hf) (S _ _ hs);generalize upd H p (.tup [.ref fu,.ref su])=H1 at S tk ⊢;have D1:=D.up S;refine⟨_,rfl,kd,_,rfl,.inr ⟨_,yu J8 sg,p,.inl D1.hkd,rfl,dL.isIn 8 (jA _ _) tk,jA _ _,rfl⟩,_,rfl,?_⟩;cases hval:a_ kv (yu J8 sg)with
 |some w =>
  obtain⟨u,rfl,hu⟩:=D1.val hX hval;exact bj (fin (D1.more (by omega)) (ab.exBs S) hval hu)
 |none =>
  refine bX ?_;refine⟨_,rfl,_,rfl,_,rfl,t,fu,su,l1,l2,l3,l4,ts,J0,J2,J4,J8,sg,ds,rfl,T.same (S0.trans S),m,S _ _ hf,bE.of (S _ _ hs),hz,fun u H2 hu S2=>?_⟩;refine⟨_,rfl,_,rfl,_,rfl,(by show 2<=aj;decide),fun p2 hp2=>?_⟩;have S3:ab H2 (upd H2 p2 (.tup [.ref fu,.ref su])):=ab.new hp2;have S12:=S.trans S2;have tk3:=Bi (aa (H:=H2) (a:=p2)) (S3 _ _ (S12 _ _ hf)) (S3 _ _ (S12 _ _ hs));generalize upd H2 p2 (.tup [.ref fu,.ref su])=H3 at S3 tk3 ⊢;have D3:=(D1.up S2).up S3;have cl:=D3.len;refine⟨kd,_,rfl,.inr ⟨_,yu J8 sg,p2,D3.hkd,rfl,tk3,jA _ _,by rw[vj];omega,rfl⟩,?_⟩;have D4:=D3.put (k:=yu J8 sg) (v:=.ref u) (.inl ⟨J8,sg,u,rfl,S3 _ _ hu⟩);exact fin D4 ((ab.exBs (S12.trans S3)).trs fun b o e nb=>by rw[ah nb];exact e) (by rw[iB,if_pos rfl]) (ID D3.hkd _ _ (S3 _ _ hu))
def askedF(J0 J4:Zb)(ds:List ak)(J8:Zb):List Str:=J0.filter fun a=>decide (behF J4 ds J8 (c8 a)≠[])
inductive oC(K:Za)(vs:List V)(H:Hp)(Q:VK)(E:XK):Prop
 |mk (X:TK×V->Prop) (hX:IM X) (H0:Hp) (t l1 l2 l3 l4 kd fu:Addr) (ts:Ze) (kv:List (TK×V)) (n:Nat) (J8 J0 J2 J4:Zb) (ds:List ak):(vs=[.ref t,.ref kd,.ref fu])->(ny H0 t l1 l2 l3 l4 ts J0 J2 J4 ds)->(cJ J0 J2 J4 ds)->(H0 kd=none)->(ab H0 H)->(eV X H kd kv J0 J2 J4 ds n)->(H fu=some (.tup (J8.map V.str)))->(J8.length<=1000)->(n+4<=8000000) ->
  (∀(l:Addr) (kv':List (TK×V)) (H':Hp),H' l=some (.lst ((askedF J0 J4 ds J8).map V.str))->eV X H' kd kv' J0 J2 J4 ds (n+4)->ca kd H H'->Q (.ref l) H')->oC K vs H Q E
theorem EI{K:Za}{vs:List V}{H:Hp}{Q:VK}{E:XK}(h:oC K vs H Q E):yQ K (kP K) (be Q) (start Aa vs) H:=by
 obtain⟨X,hX,H0,t,l1,l2,l3,l4,kd,fu,ts,kv,n,J8,J0,J2,J4,ds,rfl,T,m,h0,S0,D,hf,hz,hn,k⟩:=h;have z1:=m.asks4;have T':=T.same S0;have a1:=T'.a1;have n1:l1≠kd:=fun z=>by have:=D.hkd;rw[<-z,a1]at this;cases this
 refine⟨_,rfl,.inr (.inl ⟨t,_,0,_,rfl,rfl,bE.of T'.t,rfl,l1,rfl,⟨_,az.of a1⟩,fun l hl=>?_⟩)⟩;have nl:l≠kd:=(ae D.hkd hl).symm;refine cx (xs:=J0.map V.str) (fun i vs H'=>∃kv':List (TK×V),vs=((J0.take i).filter fun a=>decide (behF J4 ds J8 (c8 a)≠[])).map V.str/\H' l=some (.lst vs)/\eV X H' kd kv' J0 J2 J4 ds (n+i)/\ca kd H H')
  ⟨kv,rfl,aa,D.up (ab.new hl),ab.exBs (ab.new hl)⟩ (fun i vs H' _ ⟨_,_,h',_,ex⟩=>⟨h',az.of (ex _ _ a1 n1)⟩) ?_ ?_
 ·rintro vs H' ⟨kv',rfl,h',D',ex⟩;rw[ai,aS]at h';rw[ai]at D';exact k l kv' H' h' (D'.more (by omega)) ex
 ·rintro i vs H1 v hv hi ⟨kv1,rfl,h1,D1,ex1⟩;obtain⟨a,ha,rfl⟩:=cq hv;have il:i<J0.length:=(bY.1 ha).1;refine gN ?_;refine⟨_,rfl,_,rfl,_,rfl,_,rfl,(by show 2<=aj;decide),fun s hs=>?_⟩;have S2:ab H1 (upd H1 s (.tup [.str "ask",.str a])):=ab.new hs;have s2:upd H1 s (.tup [.str "ask",.str a]) s=some (.tup ((c8 a).map V.str)):=aa;generalize upd H1 s (.tup [.str "ask",.str a])=H2 at S2 s2 ⊢;have ktf:=ca.ktd D.hkd ex1;refine⟨X,hX,H0,t,l1,l2,l3,l4,kd,fu,s,ts,kv1,n+i,c8 a,J8,J0,J2,J4,ds,rfl,T,m,h0,(ca.sameH S0 h0 ex1).trans S2,D1.up S2,S2 _ _ (ktf _ _ hf),s2,hz,by omega,fun u kv3 H3 hu D3 ex3=>?_⟩;refine⟨(by show 0<=aj;decide),fun e he=>⟨fB (behF J4 ds J8 (c8 a)),fB [],bx (bE.of (kp hu he)),bx (bE.of aa),by rw[bv];decide,by rw[bv];decide,_,rfl,?_⟩⟩;rw[jZ];have S4:ab H3 (upd H3 e (.tup [])):=ab.new he;generalize upd H3 e (.tup [])=H4 at S4 ⊢;have l4':=S4 _ _ (ex3 _ _ (S2 _ _ h1) nl);have D4:=D3.up S4;have ex4:ca kd H H4:=(ex1.trs (ab.exBs S2)).trs (ex3.trs (ab.exBs S4));have ed:(!decide (behF J4 ds J8 (c8 a)=[]))=decide (behF J4 ds J8 (c8 a)≠[]):=by simp
  rw[ed];refine k3 (fun hq=>?_) (fun hq=>?_)
  ·refine⟨_,rfl,l4',?_,ni hi ⟨kv3,?_,aa,D4.cell l4',fun b o q nb=>?_⟩⟩
   ·rw[ai];refine am (aG (cM _ _) ?_);rw[aM];omega
   ·rw[b_ ha,if_pos hq,ar];rfl
   ·rw[ah (ae q hl)];exact ex4 _ _ q nb
  ·refine ni hi ⟨kv3,?_,l4',D4,ex4⟩;rw[b_ ha,if_neg hq,dY]
def lB:Nat->Nat
 |0=>0
 |d+1=>30+25 * lB d
theorem gV(J0 J2 J4:Zb)(ds:List ak)(J8:Zb):kindsF J0 J2 J4 ds J8=((askedF J0 J4 ds J8).map some++[none]).map (au J2):=by
 unfold kindsF askedF;rw[ar,jH];rfl
inductive jM(K:Za)(D:Nat)(vs:List V)(H:Hp)(Q:VK)(E:XK):Prop
 |mk (X:TK×V->Prop) (hX:IM X) (H0:Hp) (t l1 l2 l3 l4 kd fu:Addr) (ts:Ze) (kv:List (TK×V)) (n d:Nat) (J8 J0 J2 J4:Zb) (ds:List ak):(vs=[.ref t,.ref kd,.ref fu,.int (d:Nat)])->(d<=D)->(ny H0 t l1 l2 l3 l4 ts J0 J2 J4 ds)->(cJ J0 J2 J4 ds)->(H0 kd=none)->(ab H0 H)->(eV X H kd kv J0 J2 J4 ds n)->(H fu=some (.tup (J8.map V.str)))->(J8.length<=1000)->(n+lB d<=8000000) ->
  (∀(kv':List (TK×V)) (H':Hp),eV X H' kd kv' J0 J2 J4 ds (n+lB d)->ca kd H H'->Q (.int (cntM J0 J2 J4 ds d J8)) H')->jM K D vs H Q E
inductive kM(K:Za)(D:Nat)(vs:List V)(H:Hp)(Q:VK)(E:XK):Prop
 |mk (X:TK×V->Prop) (hX:IM X) (H0:Hp) (t l1 l2 l3 l4 kd fu:Addr) (ts:Ze) (ask:Option Str) (kv:List (TK×V)) (n d:Nat) (J8 J0 J2 J4:Zb) (ds:List ak):(vs=[.ref t,.ref kd,.ref fu,DR ask,.int ((d+1:Nat))])->(d<=D)->(ny H0 t l1 l2 l3 l4 ts J0 J2 J4 ds)->(cJ J0 J2 J4 ds)->(H0 kd=none)->(ab H0 H)->(eV X H kd kv J0 J2 J4 ds n)->(H fu=some (.tup (J8.map V.str)))->(J8.length<=1000)->(n+5 * (1+lB d)<=8000000) ->
  (∀(l:Addr) (kv':List (TK×V)) (H':Hp),H' l=some (.lst (((au J2 ask).map fun sg=>cntM J0 J2 J4 ds d (behF J4 ds J8 sg)).map V.int))->eV X H' kd kv' J0 J2 J4 ds (n+5 * (1+lB d))->ca kd H H'->Q (.ref l) H')->kM K D vs H Q E
theorem cf(J2:Zb)(ask:Option Str):(au J2 ask).length=J2.length+1:=by
 cases ask with
 |none=>unfold au;rw[aE,ai];rfl
 |some a=>unfold au;rw[fG,ai]
theorem Ey{K:Za}{D:Nat}{vs:List V}{H:Hp}{Q:VK}{E:XK}(h:kM K D vs H Q E):yM K on (jM K D) (kP K) (be Q) (start z7 vs) H:=by
 obtain⟨X,hX,H0,t,l1,l2,l3,l4,kd,fu,ts,ask,kv,n,d,J8,J0,J2,J4,ds,rfl,hD,T,m,h0,S0,Dy,hf,hz,hn,k⟩:=h;have z2:=m.says4;have z3:=m.rooms26;refine⟨(by show 0<=aj;decide),fun l hl=>?_⟩;have S1:ab H (upd H l (.lst [])):=ab.new hl;have nl:l≠kd:=(ae Dy.hkd hl).symm;have l1':upd H l (.lst []) l=some (.lst []):=aa;generalize upd H l (.lst [])=H1 at S1 l1' ⊢;refine⟨_,rfl,_,rfl,t,l1,l2,l3,l4,ts,ask,J0,J2,J4,ds,rfl,(T.same S0).same S1,z2,fun pl us H2 hpl hP S2=>⟨pl,rfl,⟨_,az.of hpl⟩,?_⟩⟩;have S12:=S1.trans S2;have D2:=Dy.up S12;have npl:pl≠kd:=fun z=>by have:=D2.hkd;rw[<-z,hpl]at this;cases this
 have zu:us.length=J2.length+1:=by rw[Paired.length hP,cf]
 have npl2:pl≠l:=fun z=>by
  rw[z,S2 _ _ l1']at hpl;injection hpl with hpl;injection hpl with hpl;rw[wg.1 hpl.symm]at zu;cases zu
 have l0:H0 l=none:=S0.free hl;have l2':=S2 _ _ l1';have S02:=S0.trans S12;have f2:=S12 _ _ hf;refine cr (xs:=us.map V.ref) (fun i σ H'=>∃(kv':List (TK×V)) (x6:Option V),σ=[some (.ref t),some (.ref kd),some (.ref fu),some (DR ask),some (.int ((d+1:Nat))),some (.ref l),x6]/\H' l=some (.lst ((((au J2 ask).take i).map fun sg=>cntM J0 J2 J4 ds d (behF J4 ds J8 sg)).map V.int))/\eV X H' kd kv' J0 J2 J4 ds (n+i * (1+lB d))/\∀b o,H2 b=some o->b≠kd->b≠l->H' b=some o)
  ⟨kv,_,rfl,l2',D2.more (by omega),fun _ _ e _ _=>e⟩ (fun i σ H' _ ⟨_,_,_,_,_,ex⟩=>az.of (ex _ _ hpl npl npl2)) ?_ ?_
 ·rintro i v σ H3 hi ⟨kv3,x6,rfl,l3',D3,ex3⟩;obtain⟨s,hs,rfl⟩:=bQ hi;obtain⟨sg,hsg,hat⟩:=Paired.getL hP hs;have il:i<(au J2 ask).length:=(bY.1 hsg).1;rw[cf]at il;have kt3:ik H2 H3:=fun b xs e=>ex3 _ _ e (fun z=>by rw[z,D2.hkd]at e;cases e) (fun z=>by rw[z,l2']at e;cases e);have S03:ab H0 H3:=fun b o e=>ex3 _ _ (S02 _ _ e) (ae e h0) (ae e l0);have mul:(i+1) * (1+lB d)=i * (1+lB d)+(1+lB d):=g8 _ _;have mul5:(i+1) * (1+lB d)<=5 * (1+lB d):=dW _ (by omega);refine⟨_,rfl,.inl ⟨rfl,_,az.of l3'⟩,_,rfl,_,rfl,_,rfl,_,rfl,_,rfl,_,rfl,X,hX,H0,t,l1,l2,l3,l4,kd,fu,s,ts,kv3,_,sg,J8,J0,J2,J4,ds,rfl,T,m,h0,S03,D3,kt3 _ _ f2,kt3 _ _ hat,hz,by omega,fun u kv4 H4 hu D4 ex4=>?_⟩;refine⟨_,rfl,_,_,rfl,rfl,X,hX,H0,t,l1,l2,l3,l4,kd,u,ts,kv4,_,d,behF J4 ds J8 sg,J0,J2,J4,ds,?_,hD,T,m,h0,ca.sameH S03 h0 ex4,D4,hu,jE (by omega) hz,by omega,fun kv5 H5 D5 ex5=>?_⟩
  ·show[V.ref t,V.ref kd,V.ref u,V.int (((d+1:Nat):Int)-1)]=_;rw[show(((d+1:Nat):Int)-1)=(d:Nat) by omega]
  have l5:=ex5 _ _ (ex4 _ _ l3' nl) nl;refine⟨l,_,_,rfl,rfl,l5,?_,kv5,_,rfl,?_,(D5.more (m:=n+(i+1) * (1+lB d)) (by omega)).cell l5,fun b o e n1 n2=>?_⟩
  ·rw[ai,ai,aM];exact am (by omega)
  ·rw[aa,take_snoc hsg,ar,ar];rfl
  ·rw[ah n2];exact ex5 _ _ (ex4 _ _ (ex3 _ _ e n1 n2) n1) n1
 ·rintro σ H3 ⟨kv3,x6,rfl,l3',D3,ex3⟩;rw[ai,Paired.length hP,aS]at l3';rw[ai,zu]at D3;have m5:(J2.length+1) * (1+lB d)<=5 * (1+lB d):=dW _ (by omega);exact⟨_,rfl,k l kv3 H3 l3' (D3.more (by omega)) fun b o e nb=>ex3 _ _ (S12 _ _ e) nb (ae e hl)⟩
theorem GJ{K:Za}{D:Nat}{spS:Sp}(d5:D<=4)(hS:∀m,D=m+1->spS=kM K m){vs:List V}{H:Hp}{Q:VK}{E:XK}(h:jM K D vs H Q E):wY K (oC K) sp_product spS (be Q) (start ym vs) H:=by
 obtain⟨X,hX,H0,t,l1,l2,l3,l4,kd,fu,ts,kv,n,d,J8,J0,J2,J4,ds,rfl,hD,T,m,h0,S0,Dy,hf,hz,hn,k⟩:=h;have z1:=m.asks4;have z2:=m.says4;refine⟨_,rfl,(by show 0<=aj;decide),fun e he=>⟨fB J8,fB [],bx (bE.of (kp hf he)),bx (bE.of aa),by rw[bv];decide,by rw[bv];decide,_,rfl,?_⟩⟩;rw[jZ];have Se:ab H (upd H e (.tup [])):=ab.new he;generalize upd H e (.tup [])=He at Se ⊢;have De:=Dy.up Se;have one:cntM J0 J2 J4 ds d J8=1->Q (.int 1) He:=fun e=>by
  have:=k kv He (De.more (by omega)) (ab.exBs Se);rw[e]at this;exact this
 by_cases hne:J8=[]
 ·rw[zzr1 hne];refine bX ?_;refine bX ?_;exact one (by rw[hne];exact uw _ _ _ _ _)
 rw[zzr0 hne];refine bj ?_;refine⟨_,rfl,rfl,_,rfl,?_⟩
 match d,hD,hn,k,one with
 |0,_,_,_,one =>
  refine bX ?_;exact one (by unfold cntM;rfl)
 |d+1,hD,hn,k,one =>
 rw[zzr0 (by intro z;injection z with z;omega)];refine bj ?_;obtain⟨w,rfl⟩:∃w,D=w+1:=⟨D-1,by omega⟩;cases hS w rfl;have eq:cntM J0 J2 J4 ds (d+1) J8=1+((kindsF J0 J2 J4 ds J8).map fun k=>fg (k.map fun sg=>cntM J0 J2 J4 ds d (behF J4 ds J8 sg))).sum:=by
  conv=>lhs;unfold cntM
  rw[if_neg hne]
 have nb:lB (d+1)=30+25 * lB d:=rfl;have fe:=Se _ _ hf;have S0e:=S0.trans Se;have fin:∀{kv':List (TK×V)}{H':Hp}{x4 x5:Option V},eV X H' kd kv' J0 J2 J4 ds (n+lB (d+1))->ca kd He H'->a_ kv' (qp J8 (d+1))=some (.int (cntM J0 J2 J4 ds (d+1) J8))->(aO (kL K V1 (bR (aZ V2 V3)))) (be Q) [some (.ref t),some (.ref kd),some (.ref fu),some (.int ((d+1:Nat))),x4,x5] H':=by
  intro kv' H' x4 x5 D' ex v';refine⟨_,rfl,_,rfl,_,rfl,(by show 2<=aj;decide),fun p hp=>?_⟩;have S:ab H' (upd H' p (.tup [.ref fu,.int ((d+1:Nat))])):=ab.new hp;have tk:=qo (d:=d+1) (aa (H:=H') (a:=p)) (S _ _ (ca.ktd De.hkd ex _ _ fe));exact⟨kd,_,rfl,.inr ⟨_,qp J8 (d+1),p,.inl (S _ _ D'.hkd),rfl,dL.isIn 8 (dS _ _) tk,dS _ _,v'.symm⟩,k kv' _ (D'.up S) ((ab.exBs Se).trs (ex.trs (ab.exBs S)))⟩
 refine⟨_,rfl,_,rfl,(by show 2<=aj;decide),fun p hp=>?_⟩;have S:ab He (upd He p (.tup [.ref fu,.int ((d+1:Nat))])):=ab.new hp;have tk:=qo (d:=d+1) (aa (H:=He) (a:=p)) (S _ _ fe);generalize upd He p (.tup [.ref fu,.int ((d+1:Nat))])=H1 at S tk ⊢;have D1:=De.up S;refine⟨_,rfl,kd,_,rfl,.inr ⟨_,qp J8 (d+1),p,.inl D1.hkd,rfl,dL.isIn 8 (dS _ _) tk,dS _ _,rfl⟩,_,rfl,?_⟩;cases hval:a_ kv (qp J8 (d+1))with
 |some w' =>
  refine bj ?_;exact fin (D1.more (by omega)) (ab.exBs S) (by rw[hval,D1.cnt hX hval])
 |none =>
  refine bX ?_;refine⟨_,rfl,_,rfl,_,rfl,X,hX,H0,t,l1,l2,l3,l4,kd,fu,ts,kv,n,J8,J0,J2,J4,ds,rfl,T,m,h0,S0e.trans S,D1,S _ _ fe,hz,by omega,fun al kv2 H2 hal D2 ex2=>⟨(by show 1<=aj;decide),fun nl hnl=>?_⟩⟩;have za:(askedF J0 J4 ds J8).length<=4:=aG (cM _ _) z1;have S3:ab H2 (upd H2 nl (.lst [.non])):=ab.new hnl;have nl3:upd H2 nl (.lst [.non]) nl=some (.lst [.non]):=aa;generalize upd H2 nl (.lst [.non])=H3 at S3 nl3 ⊢;refine⟨al,nl,_,_,rfl,rfl,S3 _ _ hal,nl3,by rw[ai];exact c6 (am (by show _+1<=1000;omega)),fun cl hcl=>?_⟩;have S4:ab H3 (upd H3 cl (.lst ((askedF J0 J4 ds J8).map V.str++[.non]))):=ab.new hcl;have cl4:upd H3 cl (.lst ((askedF J0 J4 ds J8).map V.str++[.non])) cl=some (.lst (((askedF J0 J4 ds J8).map some++[none]).map DR)):=by
   rw[aa,ar,jH];rfl
  generalize upd H3 cl (.lst ((askedF J0 J4 ds J8).map V.str++[.non]))=H4 at S4 cl4 ⊢;have D4:=(D2.up S3).up S4;have ex4:ca kd He H4:=(ab.exBs S).trs (ex2.trs (ab.exBs (S3.trans S4)));have ncl:cl≠kd:=fun z=>by have:=D4.hkd;rw[<-z,cl4]at this;cases this
  generalize hA:((askedF J0 J4 ds J8).map some++[none]:List (Option Str))=A at cl4;have zA:A.length<=5:=by rw[<-hA,aE,ai];show _+1<=5;omega
  have eA:kindsF J0 J2 J4 ds J8=A.map (au J2):=by rw[<-hA];exact gV _ _ _ _ _
  rw[eA,jH]at eq;refine⟨cl,rfl,⟨_,az.of cl4⟩,?_⟩;refine cr (xs:=A.map DR) (fun i σ H'=>∃(kv':List (TK×V)) (x5:Option V),σ=[some (.ref t),some (.ref kd),some (.ref fu),some (.int ((d+1:Nat))),some (.int (1+((A.take i).map ((fun k=>fg (k.map fun sg=>cntM J0 J2 J4 ds d (behF J4 ds J8 sg))) ∘ au J2)).sum)),x5]/\eV X H' kd kv' J0 J2 J4 ds (n+4+i * (5 * (1+lB d)))/\ca kd H4 H')
   ⟨kv2,_,rfl,D4.more (by omega),ca.refl _ _⟩ (fun i σ H' _ ⟨_,_,_,_,ex⟩=>az.of (ex _ _ cl4 ncl)) ?_ ?_
  ·rintro i v σ H5 hi ⟨kv5,x5,rfl,D5,ex5⟩;rw[de]at hi;obtain⟨ask,hask,rfl⟩:=mF.1 hi;have il:i<A.length:=(bY.1 hask).1;have ex05:=ex4.trs ex5;have mul:(i+1) * (5 * (1+lB d))=i * (5 * (1+lB d))+5 * (1+lB d):=g8 _ _;have mul5:(i+1) * (5 * (1+lB d))<=5 * (5 * (1+lB d)):=dW _ (by omega);refine⟨_,rfl,_,rfl,_,rfl,_,rfl,_,rfl,_,rfl,X,hX,H0,t,l1,l2,l3,l4,kd,fu,ts,ask,kv5,_,d,J8,J0,J2,J4,ds,rfl,by omega,T,m,h0,ca.sameH S0e h0 ex05,D5,ca.ktd De.hkd ex05 _ _ fe,hz,by omega,fun sl kv6 H6 hsl D6 ex6=>?_⟩;refine⟨sl,_,bB d,rfl,hsl,fun z hz'=>?_,by have:=Ct d (by omega);omega,by rw[ai,cf];omega,_,_,rfl,rfl,kv6,some (DR ask),?_,D6.more (by omega),ex5.trs ex6⟩
   ·obtain⟨sg,_,rfl⟩:=aL.1 hz';exact k7 z1 z2 d _
   ·have es:∀(f:Option Str->Int),1+((A.take (i+1)).map f).sum=1+((A.take i).map f).sum+f ask:=fun f=>by
     rw[take_snoc hask,ar,List.sum_append,bg,wK,mG,List.sum_nil,Int.add_zero,Int.add_assoc]
    rw[es];rfl
  ·rintro σ H5 ⟨kv5,x5,rfl,D5,ex5⟩;rw[ai]at D5;rw[ai,aS,<-eq];have m5:A.length * (5 * (1+lB d))<=5 * (5 * (1+lB d)):=dW _ zA;have ex05:=ex4.trs ex5;refine⟨_,rfl,_,rfl,_,rfl,_,rfl,(by show 2<=aj;decide),fun p2 hp2=>?_⟩;have S6:ab H5 (upd H5 p2 (.tup [.ref fu,.int ((d+1:Nat))])):=ab.new hp2;have tk6:=qo (d:=d+1) (aa (H:=H5) (a:=p2)) (S6 _ _ (ca.ktd De.hkd ex05 _ _ fe));generalize upd H5 p2 (.tup [.ref fu,.int ((d+1:Nat))])=H6 at S6 tk6 ⊢;have D6:=D5.up S6;have cl:=D6.len;refine⟨kd,_,rfl,.inr ⟨_,qp J8 (d+1),p2,D6.hkd,rfl,tk6,dS _ _,by rw[vj];omega,rfl⟩,?_⟩;have D7:=D6.put (k:=qp J8 (d+1)) (v:=.int (cntM J0 J2 J4 ds (d+1) J8)) (.inr (.inl ⟨_,_,rfl⟩));exact fin (D7.more (by omega)) ((ex05.trs (ab.exBs S6)).trs fun b o e nb=>by rw[ah nb];exact e) (by rw[iB,if_pos rfl])
def wT(K:Za):TS :=
 ap (cK (aW (aD xz (aD (hV K) (aD (d7 K) V0 (tC (.int 0))) (tC (.int 0))) (tC (.str "ask")))) (ap (aI (cA 2 [] (Fy K (aZ (Ap (rK K) V0 (gM (tC (.int 1))) (eG)) (Ap (rK K) V1 (gM (tC (.int 1))) (eG)))) (iX K 2 (bm U0 (bm U1 (iO)))) (ic) (bR (aZ (aD (rL K) V0 (tC (.int 1))) V1))) U2)
 (aO (bR (aw (tC (.str "tell")) (du (aD (hV K) (aD (d7 K) V0 (tC (.int 0))) (tC (.int 1))) (aD (d7 K) V1 (tC (.int 0))) (gP (tL K) (aA V2))))))) (bC))
 (ap (aI (cA 2 [] (Fy K (aw (Ap (rK K) V0 (eG) (gM (JI (rU fun i=>.int (-i)) (tC (.int 1))))) (aw (Ap (rK K) V1 (eG) (gM (JI (rU fun i=>.int (-i)) (tC (.int 1))))) bL))) (iX K 2 (bm U0 (bm U1 (iO)))) (ic) (bR (aZ (aD (rL K) V0 (tC (.int 1))) V1))) U2)
 (aO (bR (du (tC (.str "wait")) (gP (tL K) (aA V2)) (aD (d7 K) V1 (JI (rU fun i=>.int (-i)) (tC (.int 1))))))))
def yg:List Str:=["signs","parts","pairs"]
def rh(K:Za)(sp_trial_from:Sp)(C_Made:Addr)(sp_Made_trial_at:Sp)(sp_Made_count_at:Sp)(sp_Made_steps_from:Sp):TS :=
 ap (aI (bZ C_Made "steps_from" sp_Made_steps_from [] E0 V0 (aA V1)) U5)
 (ap (aI (dg (bL)) U6)
 (ap (aI V4 U7)
 (ap (eS (IG K (aA V3)) U8 (ap (aI (gP BP (aw V7 (aw (bZ C_Made "count_at" sp_Made_count_at [] E0 V0 (aZ (pZ K V5 V8) (aD qP V2 (tC (.int 1))))) bL))) (iX K 2 (bm U7 (bm U9 (iO)))))
 (cT (Ad K "list" eI V6 (aw (bZ C_Made "trial_at" sp_Made_trial_at [] E0 V0 (du (pZ K V5 V8) (aD qP V2 (tC (.int 1))) V9)) bL)))))
 (ap (cT (Gq K "list" ze V6))
 (aO (aN sp_trial_from (aZ V3 V6)))))))
def rP:List Str:=["self","face","d","signs","number","steps","parts","left","sign","own"]
def rj(K:Za)(C_Made:Addr)(sp_Made_trial_of:Sp)(sp_Made_count_of:Sp)(sp_Made_kinds_at:Sp)(a_END:Addr)(a_BLAME:Addr):TS :=
 ap (cK (tB (yS V1)) (aO (tC (.ref a_BLAME))) (bC))
 (ap (cK (aW (aD xz V3 (tC (.int 0)))) (aO (tC (.ref a_END))) (bC))
 (ap (aI (aD qP V3 (tC (.int 1))) U4)
 (ap (aI (bZ C_Made "kinds_at" sp_Made_kinds_at [] E0 V0 (aA V1)) U5)
 (ap (aI (tC (.int 0)) U6)
 (ap (tD (aW (aD Iq V4 (bZ C_Made "count_of" sp_Made_count_of [] E0 V0 (du V1 V2 (aD (d7 K) V5 V6))))) (ap (Gs 4 (bZ C_Made "count_of" sp_Made_count_of [] E0 V0 (du V1 V2 (aD (d7 K) V5 V6))) (Jo fun i j=>i-j))
 (Gs 6 (tC (.int 1)) (Jo fun i j=>i+j))))
 (aO (bZ C_Made "trial_of" sp_Made_trial_of [] E0 V0 (aw V1 (du V2 (aD (d7 K) V5 V6) V4)))))))))
def rQ:List Str:=["self","face","d","number","left","kinds","at"]
def CN(K:Za)(C_Made:Addr)(sp_Made_trial_at:Sp)(bS:Sp)(sp_Made_count_at:Sp)(sp_Made_init:Sp)(ck:Sp):TS :=
 ap (cT (aN ck (aA V1)))
 (ap (aI (vv C_Made sp_Made_init [] E0 (aA V0)) U3)
 (ap (cK (Ea (aW (aD EN V2 (tC (.int 0)))) (aW (aD Iq V2 (bZ C_Made "count_at" sp_Made_count_at [] E0 V3 (aZ (aN bS (aA V0)) V1))))) (pS) (bC))
 (aO (bZ C_Made "trial_at" sp_Made_trial_at [] E0 V3 (du (aN bS (aA V0)) V1 V2)))))
def DV:List Str:=["M","d","number","made"]
def CP(K:Za)(sp_law_take:Sp):TS :=
 ap (aI (tC (.int 0)) U2)
 (ap (eS (uh (aA (tC (.int 22)))) U3 (aI (aD dh (aD zf V2 (tC (.int 1000003))) (aN sp_law_take (aZ V0 (tC (.int 1000003))))) U2))
 (aO (aD iG V2 V1)))
def DX:List Str:=["pen","many","found","turn"]
mutual
def fj(K:Za)(H:Hp):DT->V->Prop
 |.k a,v=>v=kV a
 |.t l,v=>∃b xs,v=.ref b/\aV K H b xs/\TrCs K H l xs
 |.s _,_=>False
def TrCs(K:Za)(H:Hp):List DT->List V->Prop
 |[],vs=>vs=[]
 |k::r,vs=>∃v us,vs=v::us/\fj K H k v/\TrCs K H r us
end
mutual
theorem fj.kt{K:Za}{H H':Hp}(k:ik H H'):∀(d:DT) (v:V),fj K H d v->fj K H' d v
 |.k _,_,h=>h
 |.t l,v,h=>by
  obtain⟨b,xs,e,t,r⟩:=h;exact⟨b,xs,e,aV.kt k t,TrCs.kt k l xs r⟩
 |.s _,_,h=>h
theorem TrCs.kt{K:Za}{H H':Hp}(k:ik H H'):∀(l:List DT) (vs:List V),TrCs K H l vs->TrCs K H' l vs
 |[],_,h=>h
 |d::r,vs,h=>by
  obtain⟨v,us,e,t,q⟩:=h;exact⟨v,us,e,fj.kt k d v t,TrCs.kt k r us q⟩
end
mutual
theorem fj.dIn{K:Za}{H:Hp}:∀(d:DT) (v:V),fj K H d v->nI K H d v
 |.k _,_,h=>h
 |.t l,v,h=>by
  obtain⟨b,xs,e,t,r⟩:=h;exact⟨b,xs,e,aV.sq t,TrCs.dIn l xs r⟩
 |.s _,_,h=>h.elim
theorem TrCs.dIn{K:Za}{H:Hp}:∀(l:List DT) (vs:List V),TrCs K H l vs->DIns K H l vs
 |[],_,h=>h
 |d::r,vs,h=>by
  obtain⟨v,us,e,t,q⟩:=h;exact⟨v,us,e,fj.dIn d v t,TrCs.dIn r us q⟩
end
abbrev qr(K:Za)(H:Hp)(vs:List V)(ps:List DT):Prop:=Paired (fun v d=>fj K H d v) vs ps
theorem qr.kt{K:Za}{H H':Hp}{vs:List V}{ps:List DT}(k:ik H H')(h:qr K H vs ps):qr K H' vs ps:=Paired.mapP h fun v d r=>fj.kt k d v r
theorem qr.all{K:Za}{H:Hp}:∀{vs:List V}{ps:List DT},qr K H vs ps->TrCs K H ps vs
 |_,_,.nil=>rfl
 |_,_,.cons a r=>⟨_,_,rfl,a,qr.all r⟩
theorem nV{K:Za}{H:Hp}(s:Str):fj K H (eZ s) (.str s):=rfl
def dF:Sg:=["blame"]
def fK:Sg:=["end"]
theorem Ep{K:Za}{H:Hp}{b:Addr}:∀{sg:Sg},aV K H b (sg.map V.str)->fj K H (fB sg) (.ref b):=fun{sg} h=>by
 refine⟨b,_,rfl,h,?_⟩;clear h
 induction sg with
 |nil=>rfl
 |cons s r ih=>exact⟨_,_,rfl,nV s,ih⟩
def kg(w:Str)(d:DT):DT:=.t [eZ w,d]
def jd(J2:Zb):Option Str->List DT->DT
 |none,ps=>.t [eZ "wait",.t (jc kg J2 (ps.take J2.length)),(ps[J2.length]?).getD (fB fK)]
 |some a,ps=>.t [eZ "tell",eZ a,(ps[0]?).getD (fB fK),.t (jc kg J2 (ps.drop 1))]
def xR(c:Sg->Int)(f:Sg->Int->DT):List Sg->Int->List DT
 |[],_=>[]
 |sg::r,n=>f sg (n % c sg)::xR c f r (n / c sg)
def GC(c:Sg->Int):List Sg->Int->Int
 |[],n=>n
 |sg::r,n=>GC c r (n / c sg)
theorem vR(c:Sg->Int)(f:Sg->Int->DT)(x:Sg):∀(l:List Sg) (n:Int),xR c f (l++[x]) n=xR c f l n++[f x (GC c l n % c x)]
 |[],n=>rfl
 |sg::r,n=>by
  show f sg (n % c sg)::xR c f (r++[x]) (n / c sg)=_;rw[vR c f x r];rfl
theorem y3(c:Sg->Int)(x:Sg):∀(l:List Sg) (n:Int),GC c (l++[x]) n=GC c l n / c x
 |[],n=>rfl
 |sg::r,n=>by
  show GC c (r++[x]) (n / c sg)=_;rw[y3 c x r];rfl
theorem uo(c:Sg->Int)(f:Sg->Int->DT):∀(l:List Sg) (n:Int),(xR c f l n).length=l.length
 |[],_=>rfl
 |sg::r,n=>by
  show(xR c f r (n / c sg)).length+1=r.length+1;rw[uo c f r]
def eC(c:Option Str->Int):List (Option Str)->Int->Option (Option Str×Int)
 |[],_=>none
 |a::r,n=>if n<c a then some (a,n)else eC c r (n-c a)
def prodA(J0 J2 J4:Zb)(ds:List ak)(d:Nat)(J8:Zb)(a:Option Str):Int:=fg ((au J2 a).map fun sg=>cntM J0 J2 J4 ds d (behF J4 ds J8 sg))
def laidM(J0 J2 J4:Zb)(ds:List ak)(d:Nat)(nx:List Str->Int->DT)(J8:Zb)(a:Option Str)(m:Int):DT :=
 jd J2 a (xR (fun sg=>cntM J0 J2 J4 ds d (behF J4 ds J8 sg)) (fun sg=>nx (behF J4 ds J8 sg)) (au J2 a).reverse m).reverse
def nthM(J0 J2 J4:Zb)(ds:List ak):Nat->List Str->Int->DT
 |0,J8,_=>if J8=[]then fB dF else fB fK
 |d+1,J8,n=>if J8=[]then fB dF else if n=0 then fB fK else
  match eC (prodA J0 J2 J4 ds d J8) ((askedF J0 J4 ds J8).map some++[none]) (n-1)with
  |none=>fB fK
  |some (a,m)=>laidM J0 J2 J4 ds d (nthM J0 J2 J4 ds d) J8 a m
theorem Fg(J0 J2 J4:Zb)(ds:List ak)(n:Int):∀d,nthM J0 J2 J4 ds d [] n=fB dF
 |0=>by unfold nthM;rw[if_pos rfl]
 |d+1=>by unfold nthM;rw[if_pos rfl]
theorem Fh{J0 J2 J4 J8:Zb}{ds:List ak}(h:J8≠[]):∀d,nthM J0 J2 J4 ds d J8 0=fB fK
 |0=>by unfold nthM;rw[if_neg h]
 |d+1=>by unfold nthM;rw[if_neg h,if_pos rfl]
theorem Dm{J0 J2 J4 J8:Zb}{ds:List ak}{d:Nat}{n:Int}{a:Option Str}{m:Int}(h:J8≠[])(h0:n≠0)(hp:eC (prodA J0 J2 J4 ds d J8) ((askedF J0 J4 ds J8).map some++[none]) (n-1)=some (a,m)):
  nthM J0 J2 J4 ds (d+1) J8 n=laidM J0 J2 J4 ds d (nthM J0 J2 J4 ds d) J8 a m:=by
 unfold nthM;rw[if_neg h,if_neg h0,hp]
def dB:Nat->Nat
 |0=>1
 |d+1=>dB d+3
theorem pG{b:Nat}:∀(ws:Zb) (ps:List DT),(∀p∈ps,p.depth<=b)->DT.depths (jc kg ws ps)<=b+1
 |[],_,_=>by simp[DT.depths]
 |_::_,[],_=>by simp[DT.depths]
 |w::ws,p::ps,h=>by
  show max (kg w p).depth (DT.depths (jc kg ws ps))<=b+1;have h1:=pG ws ps fun q hq=>h q (dX _ hq);have h2:=h p dI;have h3:(kg w p).depth=max 0 (max p.depth 0)+1:=rfl;omega
theorem yG{J2:Zb}{a:Option Str}{ps:List DT}{b:Nat}(h1:1<=b)(h:∀p∈ps,p.depth<=b):(jd J2 a ps).depth<=b+3:=by
 have hd:∀i:Nat,((ps[i]?).getD (fB fK)).depth<=b:=fun i=>by
  cases e:ps[i]? with
  |none=>show(fB fK).depth<=b;rw[bv];exact h1
  |some p=>exact h p (cc e)
 cases a with
 |none =>
  have h2:=pG J2 (ps.take J2.length) fun p hp=>h p (fL hp);have h3:=hd J2.length;show max 0 (max (DT.depths _+1) (max _ 0))+1<=b+3;omega
 |some a =>
  have h2:=pG J2 (ps.drop 1) fun p hp=>h p (wk hp);have h3:=hd 0;show max 0 (max 0 (max _ (max (DT.depths _+1) 0)))+1<=b+3;omega
theorem Ba:∀d,1<=dB d
 |0=>ax _
 |d+1=>by show 1<=dB d+3;omega
theorem vz:∀(l:List Int),(∀x∈l,0<x)->0<fg l:=by
 have key:∀(l:List Int) (b:Int),0<b->(∀x∈l,0<x)->0<l.foldl (· * ·) b:=by
  intro l
  induction l with
  |nil=>intro b hb _;exact hb
  |cons x l ih=>intro b hb h;exact ih _ (Int.mul_pos hb (h x dI)) fun y hy=>h y (dX _ hy)
 exact fun l h=>key l 1 (by decide) h
theorem m7:∀(l:List Int),(∀x∈l,0<=x)->0<=l.sum
 |[],_=>mI _
 |x::l,h=>by
  rw[mG];have:=h x dI;have:=m7 l fun y hy=>h y (dX _ hy);omega
theorem gH(J0 J2 J4:Zb)(ds:List ak):∀(d:Nat) (J8:Zb),0<cntM J0 J2 J4 ds d J8
 |0,_=>by unfold cntM;decide
 |d+1,J8=>by
  unfold cntM;split
  ·decide
  ·have:=m7 ((kindsF J0 J2 J4 ds J8).map fun k=>fg (k.map fun sg=>cntM J0 J2 J4 ds d (behF J4 ds J8 sg))) fun x hx=>by
    obtain⟨k,_,rfl⟩:=aL.1 hx;exact mE (vz _ fun y hy=>by
     obtain⟨sg,_,rfl⟩:=aL.1 hy;exact gH J0 J2 J4 ds d _)
   omega
theorem p8(J0 J2 J4:Zb)(ds:List ak)(d:Nat)(J8:Zb)(a:Option Str):0<prodA J0 J2 J4 ds d J8 a:=vz _ fun y hy=>by
 obtain⟨sg,_,rfl⟩:=aL.1 hy;exact gH J0 J2 J4 ds d _
theorem xV{J0 J2 J4 J8:Zb}{ds:List ak}{d:Nat}(h:J8≠[]):cntM J0 J2 J4 ds (d+1) J8=1+(((askedF J0 J4 ds J8).map some++[none]).map (prodA J0 J2 J4 ds d J8)).sum:=by
 conv=>lhs;unfold cntM
 rw[if_neg h,gV,jH];rfl
structure HB(c:Option Str->Int)(A:List (Option Str))(n:Int)(i:Nat)(left:Int):Prop where
 eq:eC c A n=eC c (A.drop i) left
 lo:0<=left
 hi:left<((A.drop i).map c).sum
theorem HB.at{c:Option Str->Int}{A:List (Option Str)}{n left:Int}{i:Nat}(h:HB c A n i left):∃a,A[i]?=some a/\A.drop i=a::A.drop (i+1):=by
 cases e:A[i]? with
 |none =>
  have:=h.hi;rw[List.drop_eq_nil_of_le (List.getElem?_eq_none_iff.1 e)]at this;have l:=h.lo;have:left<0:=this;omega
 |some a =>
  obtain⟨hi,rfl⟩:=bY.1 e;exact⟨_,rfl,pi hi⟩
theorem HB.stop{c:Option Str->Int}{A:List (Option Str)}{n left:Int}{i:Nat}{a:Option Str}(h:HB c A n i left)(e:A[i]?=some a)(l:left<c a):eC c A n=some (a,left):=by
 obtain⟨b,e1,e2⟩:=h.at;rw[e]at e1;cases e1;rw[h.eq,e2];show(if left<c a then _ else _)=_
 rw[if_pos l]
theorem HB.next{c:Option Str->Int}{A:List (Option Str)}{n left:Int}{i:Nat}{a:Option Str}(h:HB c A n i left)(e:A[i]?=some a)(l:¬left<c a):HB c A n (i+1) (left-c a):=by
 obtain⟨b,e1,e2⟩:=h.at;rw[e]at e1;cases e1;refine⟨?_,by omega,?_⟩
 ·rw[h.eq,e2];show(if left<c a then _ else _)=_
  rw[if_neg l]
 ·have:=h.hi;rw[e2,bg,mG]at this;omega
theorem DJ{K:Za}{k:Nat}{fi:List Nat}{g:TG}{tc:TT}{te:TE}{σ:L2.St}{H1:Hp}{Q:Hp->Prop}{l a b:Addr}{xs ys:List V}(hxy:xs.length=ys.length)(Pv:Nat->List V->Hp->Prop)(h0:Pv 0 [] (upd H1 l (.lst [])))
  (hl:∀i vs H,i<=xs.length->Pv i vs H->H l=some (.lst vs)/\az K H a xs/\az K H b ys) (hd:∀vs H,Pv xs.length vs H->Q H)
  (hs:∀i vs H x y p,xs[i]?=some x->ys[i]?=some y->i<xs.length->Pv i vs H->H p=none->g (.ref p) (dD k fi σ) (upd H p (.tup [x,y])) fun σ2 H4=>tc σ2 H4 fun b H5 =>
   if b=true then te σ2 H5 fun v H6=>H6 l=some (.lst vs)/\vs.length<aj/\∃m',m'<xs.length-i/\Wc xs.length Pv (i+1) m' (vs++[v]) (upd H6 l (.lst (vs++[v])))else ∃m',m'<xs.length-i/\Wc xs.length Pv (i+1) m' vs H5) :
  dO k fi σ (JO K a b) g tc te H1 l Q:=by
 refine jB xs.length Pv h0 (fun i vs H hi p=>(hl i vs H hi p).1) (fun i vs H hi p=>?_) (fun vs H p=>?_) fun i vs H x H3 hi p y=>?_
 ·obtain⟨_,q1,q2⟩:=hl i vs H (c6 hi) p;have hi2:i<ys.length:=by omega
  exact⟨xs,ys,xs[i],ys[i],q1,q2,by simp[hi],by simp[hi2]⟩
 ·obtain⟨_,q1,q2⟩:=hl _ vs H (ax _) p;exact⟨⟨xs,ys,q1,q2,.inl (ax _)⟩,hd vs H p⟩
 ·obtain⟨_,q1,q2⟩:=hl i vs H (c6 hi) p;obtain⟨t,u,v,rfl,hn,hu,hv,rfl⟩:=y;exact hs i vs H u v t (hu xs q1) (hv ys q2) hi p hn
theorem vV(xs:List V):fU xs none (some (-1))=xs.take (xs.length-1):=by
 unfold fU;have h1:HT.sIx xs.length 0 none=0:=rfl;have h2:HT.sIx xs.length xs.length (some (-1))=xs.length-1:=by unfold HT.sIx;simp;omega
 rw[h1,h2];rfl
theorem Hv{xs:List V}{n:Nat}{v:V}(hn:n+1=xs.length)(h:xs[n]?=some v):yb xs (-1)=some v:=by
 have e:xs=xs.take n++[v]:=by rw[<-take_snoc h,hn,aS]
 rw[e];exact FV _ _
theorem ut{K:Za}{σ:L2.St}{H:Hp}{a b l:Addr}{gs:Ze}{vs:List V}{J2:Zb}{ps:List DT}{Q:Hp->Prop}(ha:H a=some (.lst (gs.map V.ref)))(hg:Cz K H gs (J2.map cu))(hb:H b=some (.lst vs))(hp:qr K H vs ps)(z:J2.length=ps.length)(z4:J2.length<=4)(hl:H l=none)
  (k:∀(us:List V) (H':Hp),H' l=some (.lst us)->qr K H' us (jc kg J2 ps)->ab H H'->Q H') :
  dO 2 [] σ (JO K a b) (iX K 2 (bm U0 (bm U1 (iO)))) (ic) (bR (aZ (aD (rL K) V0 (tC (.int 1))) V1)) H l Q:=by
 have zg:gs.length=J2.length:=by rw[Paired.length hg,ai]
 have zv:vs.length=ps.length:=Paired.length hp;refine DJ (xs:=gs.map V.ref) (ys:=vs) (by rw[ai];omega) (fun i us H'=>ab H H'/\H' l=some (.lst us)/\qr K H' us (jc kg (J2.take i) (ps.take i))) ⟨ab.new hl,aa,.nil⟩ (fun i us H' _ ⟨S,h',_⟩=>⟨h',az.of (S _ _ ha),az.of (S _ _ hb)⟩) ?_ ?_
 ·rintro us H' ⟨S,h',hP⟩;rw[ai,zg,aS,z,aS]at hP;exact k us H' h' hP S
 ·rintro i us H1 x v p hx hv hi ⟨S,h1,hP⟩ hp1;obtain⟨g,hg',rfl⟩:=bQ hx;obtain⟨sg,hsg,hat⟩:=Paired.getL hg hg';rw[de]at hsg;obtain⟨w,hw,rfl⟩:=mF.1 hsg;obtain⟨d,hd,hvd⟩:=Paired.getL hp hv;have S2:ab H1 (upd H1 p (.tup [.ref g,v])):=ab.new hp1;have p2:upd H1 p (.tup [.ref g,v]) p=some (.tup [.ref g,v]):=aa;generalize upd H1 p (.tup [.ref g,v])=H2 at S2 p2 ⊢;refine⟨p,_,rfl,bE.of p2,rfl,_,_,rfl,_,_,rfl,rfl,pH ?_⟩;have hg2:aV K H2 g ((cu w).map V.str):=aV.kt (ab.kt (S.trans S2)) hat;refine⟨_,rfl,.inr (.inl ⟨g,_,1,.str w,rfl,rfl,aV.sq hg2,aX (j:=1) rfl,_,rfl,(by show 2<=aj;decide),fun q hq=>?_⟩)⟩;have S3:ab H2 (upd H2 q (.tup [.str w,v])):=ab.new hq;have q3:upd H2 q (.tup [.str w,v]) q=some (.tup [.str w,v]):=aa;generalize upd H2 q (.tup [.str w,v])=H3 at S3 q3 ⊢;have S13:=S2.trans S3;have h3:=S13 _ _ h1;have kt:ik H3 (upd H3 l (.lst (us++[.ref q]))):=eU h3;have hlen:us.length<=1000:=by
   rw[Paired.length hP,List.length_zipWith,aM];omega
  refine⟨h3,am hlen,ni hi ⟨fun b o e=>?_,aa,?_⟩⟩
  ·rw[ah (ae e hl)];exact S13 _ _ (S _ _ e)
  ·rw[take_snoc hw,take_snoc hd,List.zipWith_append (by rw[aM,aM,z])];refine ef (qr.kt (fun b xs e=>kt _ _ (ab.kt S13 _ _ e)) hP) ?_;exact⟨q,_,rfl,.inl (kt _ _ q3),_,_,rfl,nV w,_,_,rfl,fj.kt (fun b xs e=>kt _ _ (ab.kt (S.trans S13) _ _ e)) _ _ hvd,rfl⟩
theorem kI{J2:Zb}{ps:List DT}{d:DT}(h:ps[J2.length]?=some d):jd J2 none ps=.t [eZ "wait",.t (jc kg J2 (ps.take J2.length)),d]:=by
 show DT.t [_,_,(ps[J2.length]?).getD _]=_;rw[h];rfl
theorem kH{J2:Zb}{ps:List DT}{a:Str}{d:DT}(h:ps[0]?=some d):jd J2 (some a) ps=.t [eZ "tell",eZ a,d,.t (jc kg J2 (ps.drop 1))]:=by
 show DT.t [_,_,(ps[0]?).getD _,_]=_;rw[h];rfl
inductive lA(K:Za)(vs:List V)(H:Hp)(Q:VK)(E:XK):Prop
 |mk (sl pl:Addr) (vs':List V) (ps:List DT) (ask:Option Str) (J2:Zb):(vs=[.ref sl,.ref pl])->(cV K H sl (au J2 ask))->(H pl=some (.lst vs'))->(qr K H vs' ps)->(ps.length=J2.length+1)->(J2.length<=4)->(∀(v:V) (H':Hp),fj K H' (jd J2 ask ps) v->ab H H'->Q v H')->lA K vs H Q E
theorem C0{K:Za}{vs:List V}{H:Hp}{Q:VK}{E:XK}(h:lA K vs H Q E):wT K (be Q) (start yg vs) H:=by
 obtain⟨sl,pl,vs,ps,ask,J2,rfl,⟨gs,hsl,hG⟩,hpl,hP,zp,z4,k⟩:=h;have zv:vs.length=J2.length+1:=by rw[Paired.length hP,zp]
 cases ask with
 |some a =>
  have hG':Paired (fun g (sg:Sg)=>aV K H g (sg.map V.str)) gs (c8 a::J2.map cu):=hG;obtain⟨g0,e0,hg0⟩:=Paired.get (i:=0) hG' rfl;have hd0:(gs.map V.ref)[0]?=some (.ref g0):=by rw[de,e0];rfl
  refine⟨_,rfl,sl,_,0,.ref g0,rfl,rfl,az.of hsl,aX (j:=0) hd0,g0,_,0,.str "ask",rfl,rfl,aV.sq hg0,aX (j:=0) rfl,rfl,_,rfl,?_⟩;rw[zzr1 rfl];refine bX ?_;refine⟨_,rfl,_,rfl,sl,_,rfl,az.of hsl,fun s1 hs1=>?_⟩;rw[show fU (gs.map V.ref) (some 1) none=(gs.drop 1).map V.ref from(uq _ 1).trans (wn ..).symm];have S1:ab H (upd H s1 (.lst ((gs.drop 1).map V.ref))):=ab.new hs1;have s1':upd H s1 (.lst ((gs.drop 1).map V.ref)) s1=some (.lst ((gs.drop 1).map V.ref)):=aa;generalize upd H s1 (.lst ((gs.drop 1).map V.ref))=H1 at S1 s1' ⊢;refine⟨_,rfl,_,rfl,pl,_,rfl,az.of (S1 _ _ hpl),fun p1 hp1=>?_⟩;rw[show fU vs (some 1) none=vs.drop 1 from uq _ 1];have S2:ab H1 (upd H1 p1 (.lst (vs.drop 1))):=ab.new hp1;have p2:upd H1 p1 (.lst (vs.drop 1)) p1=some (.lst (vs.drop 1)):=aa;generalize upd H1 p1 (.lst (vs.drop 1))=H2 at S2 p2 ⊢;have S02:=S1.trans S2;refine⟨s1,p1,rfl,.inl ⟨⟨_,az.of (S2 _ _ s1')⟩,⟨_,az.of p2⟩,fun f hf=>?_⟩⟩;have hG1:Cz K H2 (gs.drop 1) (J2.map cu):=Cz.kt (ab.kt S02) (Paired.dropP 1 hG');refine ut (ps:=ps.drop 1) (S2 _ _ s1') hG1 p2 (qr.kt (ab.kt S02) (Paired.dropP 1 hP)) (by rw[fA];omega) z4 hf fun us H3 h3 hU S3=>?_;have S03:=S02.trans S3;obtain⟨v0,ev0⟩:∃v,vs[0]?=some v:=⟨_,cN (by omega)⟩;obtain⟨d0,ed0,hv0⟩:=Paired.getL hP ev0;refine⟨_,rfl,sl,_,0,.ref g0,rfl,rfl,az.of (S03 _ _ hsl),aX (j:=0) hd0,g0,_,1,.str a,rfl,rfl,aV.sq (aV.kt (ab.kt S03) hg0),aX (j:=1) rfl,_,rfl,pl,_,0,v0,rfl,rfl,az.of (S03 _ _ hpl),aX (j:=0) ev0,_,rfl,f,us,rfl,.inl ⟨az.of h3,fun tp htp=>⟨(by show 4<=aj;decide),fun r hr=>?_⟩⟩⟩;have S4:ab H3 (upd H3 tp (.tup us)):=ab.new htp;have t4:upd H3 tp (.tup us) tp=some (.tup us):=aa
  change upd H3 tp (.tup us) r=none at hr
  show Q (.ref r) (upd (upd H3 tp (.tup us)) r (.tup [.str "tell",.str a,v0,.ref tp]));generalize upd H3 tp (.tup us)=H4 at S4 t4 hr ⊢;have S5:ab H4 (upd H4 r (.tup [.str "tell",.str a,v0,.ref tp])):=ab.new hr;refine k _ _ ?_ ((S03.trans S4).trans S5);rw[kH ed0];exact⟨r,_,rfl,.inl aa,_,_,rfl,nV _,_,_,rfl,nV _,_,_,rfl,fj.kt (ab.kt ((S03.trans S4).trans S5)) _ _ hv0,_,_,rfl,⟨tp,us,rfl,.inl (S5 _ _ t4),qr.all (qr.kt (ab.kt (S4.trans S5)) hU)⟩,rfl⟩
 |none =>
  have hG':Paired (fun g (sg:Sg)=>aV K H g (sg.map V.str)) gs (J2.map cu++[bF]):=hG;have zg:gs.length=J2.length+1:=by rw[Paired.length hG',aE,ai];rfl
  obtain⟨s0,rest,e00,ne0⟩:∃s0 rest,(J2.map cu++[bF])[0]?=some (s0::rest)/\s0≠("ask":Str):=by
   cases J2 with
   |nil=>exact⟨_,_,rfl,by decide⟩
   |cons w ws=>exact⟨_,_,rfl,by decide⟩
  obtain⟨g0,e0,hg0⟩:=Paired.get (i:=0) hG' e00;have hd0:(gs.map V.ref)[0]?=some (.ref g0):=by rw[de,e0];rfl
  refine⟨_,rfl,sl,_,0,.ref g0,rfl,rfl,az.of hsl,aX (j:=0) hd0,g0,_,0,.str s0,rfl,rfl,aV.sq hg0,aX (j:=0) rfl,rfl,_,rfl,?_⟩;rw[zzr0 (fun z=>ne0 (by injection z))];refine bj ?_;refine⟨_,rfl,_,rfl,_,rfl,sl,_,rfl,az.of hsl,fun s1 hs1=>?_⟩;rw[show fU (gs.map V.ref) none (some (-1))=(gs.take J2.length).map V.ref by rw[vV,ai,zg,wo];rfl];have S1:ab H (upd H s1 (.lst ((gs.take J2.length).map V.ref))):=ab.new hs1;have s1':upd H s1 (.lst ((gs.take J2.length).map V.ref)) s1=some (.lst ((gs.take J2.length).map V.ref)):=aa;generalize upd H s1 (.lst ((gs.take J2.length).map V.ref))=H1 at S1 s1' ⊢;refine⟨_,rfl,_,rfl,_,rfl,pl,_,rfl,az.of (S1 _ _ hpl),fun p1 hp1=>?_⟩;rw[show fU vs none (some (-1))=vs.take J2.length by rw[vV,zv];rfl];have S2:ab H1 (upd H1 p1 (.lst (vs.take J2.length))):=ab.new hp1;have p2:upd H1 p1 (.lst (vs.take J2.length)) p1=some (.lst (vs.take J2.length)):=aa;generalize upd H1 p1 (.lst (vs.take J2.length))=H2 at S2 p2 ⊢;have S02:=S1.trans S2;refine⟨s1,p1,rfl,.inl ⟨⟨_,az.of (S2 _ _ s1')⟩,⟨_,az.of p2⟩,fun f hf=>?_⟩⟩;have hG1:Cz K H2 (gs.take J2.length) (J2.map cu):=by
   have:=Paired.takeP J2.length hG';rw[List.take_left' (by rw[ai])]at this;exact Cz.kt (ab.kt S02) this
  refine ut (ps:=ps.take J2.length) (S2 _ _ s1') hG1 p2 (qr.kt (ab.kt S02) (Paired.takeP J2.length hP)) (by rw[aM];omega) z4 hf fun us H3 h3 hU S3=>?_;have S03:=S02.trans S3;obtain⟨v0,ev0⟩:∃v,vs[J2.length]?=some v:=⟨_,cN (by omega)⟩;obtain⟨d0,ed0,hv0⟩:=Paired.getL hP ev0;refine⟨_,rfl,f,us,rfl,.inl ⟨az.of h3,fun tp htp=>?_⟩⟩;have S4:ab H3 (upd H3 tp (.tup us)):=ab.new htp;have t4:upd H3 tp (.tup us) tp=some (.tup us):=aa;generalize upd H3 tp (.tup us)=H4 at S4 t4 ⊢;have S04:=S03.trans S4;refine⟨_,rfl,_,rfl,pl,_,-1,v0,rfl,rfl,az.of (S04 _ _ hpl),Hv zv.symm ev0,(by show 3<=aj;decide),fun r hr=>?_⟩;have S5:ab H4 (upd H4 r (.tup [.str "wait",.ref tp,v0])):=ab.new hr;refine k _ _ ?_ (S04.trans S5);rw[kI ed0];exact⟨r,_,rfl,.inl aa,_,_,rfl,nV _,_,_,rfl,⟨tp,us,rfl,.inl (S5 _ _ t4),qr.all (qr.kt (ab.kt (S4.trans S5)) hU)⟩,_,_,rfl,fj.kt (ab.kt (S04.trans S5)) _ _ hv0,rfl⟩
theorem Jt{x i:Int}{b:Nat}(h0:0<x)(h:cE.Int.intBits x<=b)(hb:b<=9000):Ib i x:=by
 refine⟨h0,?_⟩;unfold cE.Int.intBits at h;rw[if_neg (by simp;omega)]at h;omega
def tBn:Nat->Nat
 |0=>0
 |d+1=>13+60 * nB d+5 * tBn d
inductive jK(K:Za)(Cm Ck Cd:Addr)(D:Nat)(vs:List V)(H:Hp)(Q:VK)(E:XK):Prop
 |mk (H0:Hp) (x sl y M kd cd:Addr) (us:Ze) (v:V) (kv cv:List (TK×V)) (n d:Nat) (number:Int) (J8 J0 J2 J4:Zb) (ds:List ak):(vs=[.ref x,v,.int (d:Nat),.int number])->(d<=D)->(ve Cm Ck Cd H0 x sl y M kd cd us J0 J2 J4 ds)->(cW H0 H kd cd kv cv J0 J2 J4 ds n)->(CD H v J8)->(v≠.non->J8≠[])->(∀r∈J8,r∈J4)->(J8.length<=1000)->(0<=number)->(number<cntM J0 J2 J4 ds d J8)->(n+tBn d<=1000000) ->
  (∀(v':V) (kv' cv':List (TK×V)) (H':Hp),fj K H' (nthM J0 J2 J4 ds d J8 number) v'->cW H0 H' kd cd kv' cv' J0 J2 J4 ds (n+tBn d)->Kp H H'->Gr kv kv'->Q v' H')->jK K Cm Ck Cd D vs H Q E
inductive ow(K:Za)(Cm Ck Cd:Addr)(D:Nat)(vs:List V)(H:Hp)(Q:VK)(E:XK):Prop
 |mk (H0:Hp) (x sl y M kd cd u kl:Addr) (us:Ze) (kv cv:List (TK×V)) (n d:Nat) (ask:Option Str) (number:Int) (J8 J0 J2 J4:Zb) (ds:List ak):(vs=[.ref x,.ref u,.int ((d+1:Nat)),.ref kl,.int number])->(d<=D)->(d<=4)->(ve Cm Ck Cd H0 x sl y M kd cd us J0 J2 J4 ds)->(cW H0 H kd cd kv cv J0 J2 J4 ds n)->(H u=some (.tup (J8.map V.str)))->(∀r∈J8,r∈J4)->(J8.length<=1000)->(cV K H kl (au J2 ask))->(∀sg∈au J2 ask,sg∈bD J0 J2)->(n+1+5 * (nB d+tBn d)<=1000000) ->
  (∀(v':V) (kv' cv':List (TK×V)) (H':Hp),fj K H' (laidM J0 J2 J4 ds d (nthM J0 J2 J4 ds d) J8 ask number) v'->cW H0 H' kd cd kv' cv' J0 J2 J4 ds (n+1+5 * (nB d+tBn d))->Kp H H'->Gr kv kv'->Q v' H')->ow K Cm Ck Cd D vs H Q E
theorem GH{K:Za}{Cm Ck Cd:Addr}{D:Nat}{vs:List V}{H:Hp}{Q:VK}{E:XK}(h:ow K Cm Ck Cd D vs H Q E):rh K (lA K) Cd (jK K Cm Ck Cd D) (fM Cm Ck Cd 4) (gg Cm Ck Cd) (be Q) (start rP vs) H:=by
 obtain⟨H0,x,sl,y,M,kd,cd,u,kl,us,kv,cv,n,d,ask,number,J8,J0,J2,J4,ds,rfl,hD,d4,St,Dy,hu,hsub,hz,hk,hin,hn,k⟩:=h;obtain⟨dx,fs,g0,l1,l2,l3,l4⟩:=St.ob;have mo:=St.ks.mach.ok;have z1:=mo.asks4;have z2:=mo.says4;have z3:=mo.rooms26;refine⟨_,rfl,x,dx,fs,rfl,Dy.ks.same _ _ g0,l4 "steps_from" (by decide +kernel) (by decide +kernel) (by decide +kernel),_,rfl,H0,x,sl,y,M,kd,cd,u,us,kv,cv,n,J8,J0,J2,J4,ds,rfl,St,Dy,hu,hsub,hz,by omega,fun sd kv1 kvs H1 D1 v1 _ _ ex1 gr1=>?_⟩;have kp1:Kp H H1:=Kp.exB Dy.ks.hkd rfl ex1;refine⟨(by show 0<=aj;decide),fun pl hpl=>?_⟩;have S2:ab H1 (upd H1 pl (.lst [])):=ab.new hpl;have pl2:upd H1 pl (.lst []) pl=some (.lst []):=aa;generalize upd H1 pl (.lst [])=H2 at S2 pl2 ⊢;have D2:=D1.up S2;have kp2:=kp1.trans (ab.kp S2);obtain⟨ss,hkl,hss⟩:=hk;have kl2:=kp2 _ _ hkl rfl;have npl:kl≠pl:=ae (kp1 _ _ hkl rfl) hpl;refine⟨_,rfl,?_⟩;refine⟨_,rfl,kl,_,rfl,az.of kl2,?_⟩;have zk:=cf J2 ask;have zs:ss.length=J2.length+1:=by rw[Paired.length hss,zk]
 have upl:H0 pl=none:=D1.ks.same.free hpl;refine Ch (xs:=ss.map V.ref) (fun i σ H'=>∃(kv' cv':List (TK×V)) (vs:List V) (x8 x9:Option V),σ=[some (.ref x),some (.ref u),some (.int ((d+1:Nat))),some (.ref kl),some (.int number),some (.ref sd),some (.ref pl),some (.int (GC (fun sg=>cntM J0 J2 J4 ds d (behF J4 ds J8 sg)) ((au J2 ask).reverse.take i) number)),x8,x9]/\H' pl=some (.lst vs)/\qr K H' vs (xR (fun sg=>cntM J0 J2 J4 ds d (behF J4 ds J8 sg)) (fun sg=>nthM J0 J2 J4 ds d (behF J4 ds J8 sg)) ((au J2 ask).reverse.take i) number)/\(∀b o,H1 b=some o->Jm o=true->H' b=some o)/\cW H0 H' kd cd kv' cv' J0 J2 J4 ds (n+1+i * (nB d+tBn d))/\Gr kv1 kv')
  ⟨kv1,cv,[],_,_,rfl,pl2,.nil,ab.kp S2,D2.more (by omega),.refl _⟩ (fun i σ H' _ ⟨_,_,_,_,_,_,_,_,kp',_⟩=>az.of (kp' _ _ (kp1 _ _ hkl rfl) rfl)) ?_ ?_
 ·rintro i w σ H3 hw hi ⟨kv3,cv3,vs3,x8,x9,rfl,p3,tr3,kp3,D3,gr3⟩;rw[ai]at hw hi;obtain⟨s,hs,rfl⟩:=bQ hw;obtain⟨sg,hsg,hat⟩:=Paired.getL hss hs;have hrev:(au J2 ask).reverse[i]?=some sg:=by
   rw[List.getElem?_reverse (by omega),zk,<-zs];exact hsg
  have hsi:=hin sg (cc hsg);have hat3:aV K H3 s (sg.map V.str):=aV.kt (fun b xs e=>kp3 _ _ (kp1 _ _ e rfl) rfl) hat;obtain⟨f',sd',kvs2,e',_,_,r2,st2⟩:=D3.ks.kok _ (eg (gr3 _ _ v1));injection e' with e1 e2;cases eN e1;cases e2;have gd:ky K H3 sd (.ref s) (a_ kvs2 (e_ sg)):=.inr ⟨_,e_ sg,s,r2,rfl,nW hat3,dk _,rfl⟩;have mul:(i+1) * (nB d+tBn d)=i * (nB d+tBn d)+(nB d+tBn d):=g8 _ _;have mul5:(i+1) * (nB d+tBn d)<=5 * (nB d+tBn d):=dW _ (by omega);have fv:∀{H':Hp},Kp H3 H'->CD H' ((a_ kvs2 (e_ sg)).getD .non) (behF J4 ds J8 sg):=fun kp=>by
   rcases st2.look hsi with⟨e1,e2⟩|⟨e1,u2,e2,e3⟩
   ·rw[e1,e2];exact .inl ⟨rfl,rfl⟩
   ·rw[e2];exact .inr ⟨u2,rfl,kp _ _ e3 rfl⟩
  have fne:(a_ kvs2 (e_ sg)).getD .non≠.non->behF J4 ds J8 sg≠[]:=by
   rcases st2.look hsi with⟨e1,e2⟩|⟨e1,u2,e2,e3⟩
   ·rw[e2];exact fun z=>absurd rfl z
   ·exact fun _=>e1
  have ed:(((d+1:Nat):Int)-1)=(d:Nat):=by omega
  refine⟨_,rfl,_,rfl,x,dx,fs,rfl,D3.ks.same _ _ g0,l4 "count_at" (by decide +kernel) (by decide +kernel) (by decide +kernel),_,rfl,sd,rfl,.inr ⟨_,r2⟩,_,rfl,_,gd,_,rfl,_,_,rfl,rfl,H0,x,sl,y,M,kd,cd,us,(a_ kvs2 (e_ sg)).getD .non,kv3,cv3,_,d,behF J4 ds J8 sg,J0,J2,J4,ds,?_,d4,St,D3,fv (fun _ _ e _=>e),fne,k9 hsub,jE (by omega) hz,by omega,fun kv4 cv4 H4 D4 kp4 gr4=>?_⟩
  ·show[V.ref x,_,V.int (((d+1:Nat):Int)-1)]=_;rw[ed]
  have cp:=gH J0 J2 J4 ds d (behF J4 ds J8 sg);refine⟨_,_,rfl,Jt cp (k7 z1 z2 d _) (by have:=Ct d d4;omega),fun p hp=>⟨p,_,rfl,bE.of aa,rfl,_,_,rfl,_,_,rfl,rfl,?_⟩⟩;rw[<-y3 (fun sg=>cntM J0 J2 J4 ds d (behF J4 ds J8 sg)) sg,<-take_snoc hrev];generalize hown:GC (fun sg=>cntM J0 J2 J4 ds d (behF J4 ds J8 sg)) ((au J2 ask).reverse.take i) number % cntM J0 J2 J4 ds d (behF J4 ds J8 sg)=own;have S5:ab H4 (upd H4 p (.tup [.int (GC (fun sg=>cntM J0 J2 J4 ds d (behF J4 ds J8 sg)) ((au J2 ask).reverse.take (i+1)) number),.int own])):=ab.new hp;generalize upd H4 p (.tup [.int (GC (fun sg=>cntM J0 J2 J4 ds d (behF J4 ds J8 sg)) ((au J2 ask).reverse.take (i+1)) number),.int own])=H5 at S5 ⊢;have D5:=D4.up S5;have kp5:Kp H3 H5:=kp4.trans (ab.kp S5);obtain⟨f',sd',kvs5,e',_,_,r5,st5⟩:=D5.ks.kok _ (eg ((gr3.trans gr4) _ _ v1));injection e' with e1 e2;cases eN e1;cases e2;have gd5:ky K H5 sd (.ref s) (a_ kvs5 (e_ sg)):=.inr ⟨_,e_ sg,s,r5,rfl,nW (aV.kt kp5.kt hat3),dk _,rfl⟩;refine⟨_,rfl,.inl ⟨rfl,_,az.of (kp5 _ _ p3 rfl)⟩,_,rfl,x,dx,fs,rfl,D5.ks.same _ _ g0,l4 "trial_at" (by decide +kernel) (by decide +kernel) (by decide +kernel),_,rfl,sd,rfl,.inr ⟨_,r5⟩,_,rfl,_,gd5,_,rfl,_,_,rfl,rfl,_,rfl,H0,x,sl,y,M,kd,cd,us,(a_ kvs5 (e_ sg)).getD .non,kv4,cv4,_,d,own,behF J4 ds J8 sg,J0,J2,J4,ds,?_,hD,St,D5,?_,?_,k9 hsub,jE (by omega) hz,?_,?_,by omega,fun v6 kv6 cv6 H6 t6 D6 kp6 gr6=>?_⟩
  ·show[V.ref x,_,V.int (((d+1:Nat):Int)-1),_]=_;rw[ed]
  ·rcases st5.look hsi with⟨e1,e2⟩|⟨e1,u2,e2,e3⟩
   ·rw[e1,e2];exact .inl ⟨rfl,rfl⟩
   ·rw[e2];exact .inr ⟨u2,rfl,e3⟩
  ·rcases st5.look hsi with⟨e1,e2⟩|⟨e1,u2,e2,e3⟩
   ·rw[e2];exact fun z=>absurd rfl z
   ·exact fun _=>e1
  ·rw[<-hown];exact g_ _ (by omega)
  ·rw[<-hown];exact g9 _ cp
  have p6:=(kp5.trans kp6) _ _ p3 rfl;have kt:ik H6 (upd H6 pl (.lst (vs3++[v6]))):=eU p6;have zv:vs3.length<=1000:=by
   rw[Paired.length tr3,uo,aM];omega
  refine⟨pl,_,_,rfl,rfl,p6,am zv,kv6,cv6,vs3++[v6],_,_,rfl,aa,?_,fun b o e no=>?_,?_,(gr3.trans gr4).trans gr6⟩
  ·rw[take_snoc hrev,vR,hown];exact ef (qr.kt (fun b xs e=>kt _ _ ((kp5.trans kp6).kt _ _ e)) tr3) (fj.kt kt _ _ t6)
  ·rw[ah (ae e hpl)];exact(kp5.trans kp6) _ _ (kp3 _ _ e no) no
  ·exact(D6.more (m:=n+1+(i+1) * (nB d+tBn d)) (by omega)).cell upl p6
 ·rintro σ H3 ⟨kv3,cv3,vs3,x8,x9,rfl,p3,tr3,kp3,D3,gr3⟩;have el:(ss.map V.ref).length=(au J2 ask).reverse.length:=by rw[ai,hE,zs,zk]
  rw[el,aS]at tr3;rw[ai,zs]at D3;have m5:(J2.length+1) * (nB d+tBn d)<=5 * (nB d+tBn d):=dW _ (by omega);refine⟨_,rfl,.inl ⟨rfl,_,az.of p3⟩,pl,_,rfl,rfl,p3,?_⟩;have kt:ik H3 (upd H3 pl (.lst vs3.reverse)):=eU p3;have D4:=D3.cell (ys:=vs3.reverse) upl p3;have p4:upd H3 pl (.lst vs3.reverse) pl=some (.lst vs3.reverse):=aa;have kp4:Kp H1 (upd H3 pl (.lst vs3.reverse)):=fun b o e no=>by rw[ah (ae e hpl)];exact kp3 _ _ e no
  generalize upd H3 pl (.lst vs3.reverse)=H4 at kt D4 p4 kp4 ⊢;refine⟨_,rfl,_,rfl,kl,pl,_,_,ask,J2,rfl,⟨ss,kp4 _ _ (kp1 _ _ hkl rfl) rfl,Paired.mapP hss fun _ _ r=>aV.kt (kp1.trans kp4).kt r⟩,p4,Paired.rev (qr.kt kt tr3),by rw[hE,uo,hE,zk],z2,fun v' H5 t5 S5=>?_⟩;exact k v' kv3 cv3 H5 t5 ((D4.up S5).more (by omega)) ((kp1.trans kp4).trans (ab.kp S5)) (gr1.trans gr3)
theorem v8{J0 J4 J8:Zb}{ds:List ak}{J2:Zb}{a:Option Str}(h:a∈(askedF J0 J4 ds J8).map some++[none]):∀sg∈au J2 a,sg∈bD J0 J2:=by
 have hk:au J2 a∈kindsF J0 J2 J4 ds J8:=by rw[gV];exact kB h
 exact(qe hk).2
theorem GI{K:Za}{Cm Ck Cd bl en:Addr}(c:DC K Cd)(hb:∀H,bE K H bl (dF.map V.str))(he:∀H,bE K H en (fK.map V.str)){D:Nat}{spT:Sp}(d5:D<=4)(hT:∀m,D=m+1->spT=ow K Cm Ck Cd m){vs:List V}{H:Hp}{Q:VK}{E:XK}(h:jK K Cm Ck Cd D vs H Q E):rj K Cd spT (gR K Cm Ck Cd 4) (ir K Cm Ck Cd) en bl (be Q) (start rQ vs) H:=by
 obtain⟨H0,x,sl,y,M,kd,cd,us,v,kv,cv,n,d,number,J8,J0,J2,J4,ds,rfl,hD,St,Dy,hv,hne,hsub,hz,n0,nl,hn,k⟩:=h;obtain⟨dx,fs,g0,l1,l2,l3,l4⟩:=St.ob;have mo:=St.ks.mach.ok;have z1:=mo.asks4;have z2:=mo.says4;refine⟨_,rfl,_,rfl,?_⟩;rcases hv with⟨rfl,rfl⟩|⟨u,rfl,hu⟩
 ·refine bX ?_;refine k _ kv cv H ?_ (Dy.more (by omega)) (fun _ _ e _=>e) (.refl _);rw[Fg];exact Ep (nU hb H)
 have hne:=hne (by intro z;cases z);refine bj ?_;refine⟨_,rfl,rfl,_,rfl,?_⟩;by_cases hz0:number=0
 ·rw[zzr1 (by rw[hz0])];refine bX ?_;refine k _ kv cv H ?_ (Dy.more (by omega)) (fun _ _ e _=>e) (.refl _);rw[hz0,Fh hne];exact Ep (nU he H)
 rw[zzr0 (by intro z;injection z with z;exact hz0 z)];refine bj ?_
 match d,hD,hn,nl,k with
 |0,_,_,nl,_ =>
  unfold cntM at nl;omega
 |d+1,hD,hn,nl,k =>
 obtain⟨m,rfl⟩:∃m,D=m+1:=⟨D-1,by omega⟩;cases hT m rfl;rw[xV hne]at nl;have nb:tBn (d+1)=13+60 * nB d+5 * tBn d:=rfl;refine⟨_,rfl,_,_,rfl,rfl,?_⟩;refine⟨_,rfl,x,dx,fs,rfl,Dy.ks.same _ _ g0,l4 "kinds_at" (by decide +kernel) (by decide +kernel) (by decide +kernel),_,rfl,H0,x,sl,y,M,kd,cd,u,us,kv,cv,n,J8,J0,J2,J4,ds,rfl,St,Dy,hu,hsub,hz,by omega,fun l ks kv1 H1 hl hK D1 kp1 gr1=>?_⟩;have u1:=kp1 _ _ hu rfl;rw[gV]at hK;generalize hA:((askedF J0 J4 ds J8).map some++[none]:List (Option Str))=A at hK nl;have zA:A.length<=5:=by
  rw[<-hA,aE,ai];have:(askedF J0 J4 ds J8).length<=4:=aG (cM _ _) z1;show _+1<=5;omega
 have memA:∀a∈A,∀sg∈au J2 a,sg∈bD J0 J2:=fun a ha=>v8 (J4:=J4) (ds:=ds) (J8:=J8) (by rw[hA];exact ha);refine⟨fun w σ H'=>∃(kv' cv':List (TK×V)) (i:Nat) (left:Int),w+i=5/\σ=[some (.ref x),some (.ref u),some (.int ((d+1:Nat))),some (.int number),some (.int left),some (.ref l),some (.int (i:Nat))]/\HB (prodA J0 J2 J4 ds d J8) A (number-1) i left/\Kp H1 H'/\cW H0 H' kd cd kv' cv' J0 J2 J4 ds (n+1+i * (2 * (1+5 * nB d)))/\Gr kv1 kv',
  ⟨5,kv1,cv,0,number-1,rfl,rfl,⟨rfl,by omega,by show number-1<(A.map _).sum;omega⟩,fun _ _ e _=>e,D1.more (by omega),.refl _⟩,?_⟩
 rintro w σ H2 ⟨kv2,cv2,i,left,ew,rfl,pk,kp2,D2,gr2⟩;obtain⟨a,ea,_⟩:=pk.at;have il:i<A.length:=(bY.1 ea).1;have mul:(i+1) * (2 * (1+5 * nB d))=i * (2 * (1+5 * nB d))+2 * (1+5 * nB d):=g8 _ _;have mul5:i * (2 * (1+5 * nB d))<=4 * (2 * (1+5 * nB d)):=dW _ (by omega);obtain⟨q,hq,hat⟩:=Paired.get (i:=i) (y:=au J2 a) hK (by rw[de,ea];rfl);have hqv:(ks.map V.ref)[i]?=some (.ref q):=by rw[de,hq];rfl
 have zp:(au J2 a).length<=5:=by rw[cf];omega
 have pin:=memA a (cc ea);refine⟨_,rfl,_,rfl,x,dx,fs,rfl,D2.ks.same _ _ g0,l4 "count_of" (by decide +kernel) (by decide +kernel) (by decide +kernel),_,rfl,_,rfl,_,rfl,_,rfl,l,_,(i:Int),.ref q,rfl,rfl,az.of (kp2 _ _ hl rfl),aX hqv,H0,x,sl,y,M,kd,cd,u,q,us,kv2,cv2,_,d,au J2 a,J8,J0,J2,J4,ds,rfl,by omega,by omega,St,D2,kp2 _ _ u1 rfl,hsub,hz,hat.kp kp2,pin,zp,by omega,fun kv3 cv3 H3 D3 kp3 gr3=>?_⟩
 change cW H0 H3 kd cd kv3 cv3 J0 J2 J4 ds _ at D3
 refine⟨_,_,rfl,rfl,_,rfl,?_⟩;have kp23:=kp2.trans kp3;by_cases hlt:left<prodA J0 J2 J4 ds d J8 a
 ·rw[zzr0 (by show ¬(left ≥ prodA J0 J2 J4 ds d J8 a);omega)];refine bj ?_;have e:=pk.stop ea hlt;rw[<-hA]at e;refine⟨_,rfl,x,dx,fs,rfl,D3.ks.same _ _ g0,l4 "trial_of" (by decide +kernel) (by decide +kernel) (by decide +kernel),_,rfl,_,rfl,_,rfl,_,rfl,l,_,(i:Int),.ref q,rfl,rfl,az.of (kp23 _ _ hl rfl),aX hqv,_,rfl,H0,x,sl,y,M,kd,cd,u,q,us,kv3,cv3,_,d,a,left,J8,J0,J2,J4,ds,rfl,by omega,by omega,St,D3,kp23 _ _ u1 rfl,hsub,hz,hat.kp kp23,pin,by omega,fun v4 kv4 cv4 H4 t4 D4 kp4 gr4=>?_⟩;refine k v4 kv4 cv4 H4 ?_ (D4.more (by omega)) ((kp1.trans kp23).trans kp4) (gr1.trans (gr2.trans (gr3.trans gr4)));rw[Dm hne hz0 e];exact t4
 ·rw[zzr1 (by show left ≥ prodA J0 J2 J4 ds d J8 a;omega)];refine bX ?_;have pk':=pk.next ea hlt;obtain⟨_,ea',_⟩:=pk'.at;have il':i+1<A.length:=(bY.1 ea').1;refine⟨fun σ H'=>∃(kv' cv':List (TK×V)) (left:Int),σ=[some (.ref x),some (.ref u),some (.int ((d+1:Nat))),some (.int number),some (.int left),some (.ref l),some (.int ((i+1:Nat)))]/\HB (prodA J0 J2 J4 ds d J8) A (number-1) (i+1) left/\Kp H1 H'/\cW H0 H' kd cd kv' cv' J0 J2 J4 ds (n+1+(i+1) * (2 * (1+5 * nB d)))/\Gr kv1 kv',?_,?_⟩
  ·rintro σ' H' ⟨kv',cv',left',rfl,pk',kp',D',gr'⟩;exact⟨w-1,by omega,kv',cv',i+1,left',by omega,rfl,pk',kp',D',gr'⟩
  refine⟨_,rfl,_,rfl,x,dx,fs,rfl,D3.ks.same _ _ g0,l4 "count_of" (by decide +kernel) (by decide +kernel) (by decide +kernel),_,rfl,_,rfl,_,rfl,_,rfl,l,_,(i:Int),.ref q,rfl,rfl,az.of (kp23 _ _ hl rfl),aX hqv,H0,x,sl,y,M,kd,cd,u,q,us,kv3,cv3,_,d,au J2 a,J8,J0,J2,J4,ds,rfl,by omega,by omega,St,D3,kp23 _ _ u1 rfl,hsub,hz,hat.kp kp23,pin,zp,by omega,fun kv4 cv4 H4 D4 kp4 gr4=>?_⟩;refine⟨_,_,rfl,rfl,_,rfl,_,_,rfl,rfl,kv4,cv4,_,?_,pk',kp23.trans kp4,D4.more (by omega),gr2.trans (gr3.trans gr4)⟩;show[some (V.ref x),_,_,_,some (V.int (left-prodA J0 J2 J4 ds d J8 a)),_,some (V.int ((i:Nat)+1))]=_;rw[show((i:Nat):Int)+1=((i+1:Nat):Int) by omega]
theorem HI:∀d,d<=4->nB d+tBn d<=900000:=by
 intro d hd
 match d,hd with
 |0,_=>decide
 |1,_=>decide
 |2,_=>decide
 |3,_=>decide
 |4,_=>decide
inductive lG(K:Za)(Cm:Addr)(vs:List V)(H:Hp)(Q:VK)(E:XK):Prop
 |mk (M:Addr) (d:Nat) (number:Int) (J0 J2 J4:Zb) (ds:List ak):(vs=[.ref M,.int (d:Nat),.int number])->(d<=4)->(bA Cm H M J0 J2 J4 ds)->(0<=number)->(number<cntM J0 J2 J4 ds d (closF J4 ds (J4.take 1)))->(∀v H',fj K H' (nthM J0 J2 J4 ds d (closF J4 ds (J4.take 1)) number) v->ab H H'->Q v H')->lG K Cm vs H Q E
theorem C9{K:Za}{Cm Ck Cd:Addr}(c:DC K Cd){vs:List V}{H:Hp}{Q:VK}{E:XK}(h:lG K Cm vs H Q E):CN K Cd (jK K Cm Ck Cd 4) (bS Cm) (fM Cm Ck Cd 4) (jr Cm Ck Cd) ck (be Q) (start DV vs) H:=by
 obtain⟨M,d,number,J0,J2,J4,ds,rfl,hd,MA,n0,nl,k⟩:=h;have z3:=MA.ok.rooms26;have bd:=HI d hd;refine⟨_,rfl,d,rfl,hd,?_⟩;refine⟨_,rfl,fun x dx hx hdx ne=>?_⟩;have S0:ab H (upd (upd H dx (.own x)) x (.ins Cd dx [])):=fun b o e=>by rw[ah (ae e hx)];exact kp e hdx
 refine⟨H,x,dx,M,J0,J2,J4,ds,rfl,aa,MA,hx,S0,fun Hs sl y kd cd us H1 St Dy S1=>⟨rfl,?_⟩⟩;obtain⟨dx1,fs1,g1,_,_,_,l4⟩:=St.ob;refine⟨_,rfl,_,_,rfl,rfl,_,rfl,?_⟩;rw[zzr0 (by omega)];refine bj ?_;refine⟨_,rfl,_,rfl,x,dx1,fs1,rfl,Dy.ks.same _ _ g1,l4 "count_at" (by decide +kernel) (by decide +kernel) (by decide +kernel),_,rfl,M,J0,J2,J4,ds,rfl,St.ks.mach.same Dy.ks.same,fun t F H2 ht hF S2=>?_⟩;rw[jD hF]at ht;refine⟨_,rfl,Hs,x,sl,y,M,kd,cd,us,.ref t,[],[],0,d,_,J0,J2,J4,ds,rfl,hd,St,Dy.up S2,.inr ⟨t,rfl,ht⟩,fun _=>uy MA.ok.rooms0,lR,aG jC (by omega),by omega,fun kv3 cv3 H3 D3 _ _=>?_⟩;refine⟨_,_,rfl,rfl,_,rfl,?_⟩;rw[zzr0 (by omega)];refine bj ?_;refine⟨_,rfl,x,dx1,fs1,rfl,D3.ks.same _ _ g1,l4 "trial_at" (by decide +kernel) (by decide +kernel) (by decide +kernel),_,rfl,M,J0,J2,J4,ds,rfl,St.ks.mach.same D3.ks.same,fun t4 F4 H4 ht4 hF4 S4=>?_⟩;rw[jD hF4]at ht4;refine⟨_,rfl,_,rfl,Hs,x,sl,y,M,kd,cd,us,.ref t4,kv3,cv3,_,d,number,_,J0,J2,J4,ds,rfl,hd,St,D3.up S4,.inr ⟨t4,rfl,ht4⟩,fun _=>uy MA.ok.rooms0,lR,aG jC (by omega),n0,nl,by omega,fun v5 kv5 cv5 H5 t5 D5 _ _=>k v5 H5 t5 (S1.trans D5.ks.same)⟩
def uB:Nat->Nat
 |0=>0
 |d+1=>9+30 * (1+lB d)+5 * uB d
open Builtin.Int (intBits)
theorem IK{r:Int}(h0:0<=r)(h1:r<1000003):intBits r<=20:=by
 unfold cE.Int.intBits;split
 ·decide
 ·next e =>
  have n0:r.natAbs≠0:=fun z=>e (by simp;omega);have:=(Nat.log2_lt n0 (k:=20)).2 (by show r.natAbs<1048576;omega);omega
inductive xo(vs:List V)(H:Hp)(Q:VK)(E:XK):Prop
 |mk (p c:Addr) (many:Int):(vs=[.ref p,.int many])->(gW H p c)->(0<many)->(∀(r:Int) (H':Hp),0<=r->r<many->gW H' p c->ca p H H'->Q (.int r) H')->xo vs H Q E
theorem Im{K:Za}{vs:List V}{H:Hp}{Q:VK}{E:XK}(h:xo vs H Q E):CP K gE (be Q) (start DX vs) H:=by
 obtain⟨p,c,many,rfl,hp,m0,k⟩:=h;refine⟨22,rfl,by decide,by decide,?_⟩;refine jx (lo:=0) (n:=Int.toNat 22) (fun i σ H'=>∃(f:Int) (x3:Option V),σ=[some (.ref p),some (.int many),some (.int f),x3]/\intBits f<=21 * i/\gW H' p c/\ca p H H') ⟨0,_,rfl,by decide,hp,ca.refl _ _⟩ ?_ ?_
 ·rintro i σ H1 hi ⟨f,x3,rfl,bf,hp1,ex1⟩;have hi:i<22:=hi;refine⟨_,rfl,_,_,rfl,rfl,IntMulOk.of_le bf (show intBits (1000003:Int)<=20 by decide) (by omega),_,rfl,p,c,1000003,rfl,hp1,by decide,by decide,fun r H2 r0 r1 hp2 ex2=>?_⟩;refine⟨_,_,rfl,rfl,_,_,rfl,?_,hp2,ex1.trs ex2⟩;have h1:=intBits_mul_le bf (show intBits (1000003:Int)<=20 by decide);have h2:=wd h1 (IK r0 r1);omega
 ·rintro σ H1 ⟨f,x3,rfl,bf,hp1,ex1⟩;exact⟨_,rfl,_,rfl,_,_,rfl,rfl,m0,k _ H1 (g_ _ (by omega)) (g9 _ m0) hp1 ex1⟩
theorem HF:∀d,d<=4->lB d+3 * uB d<=8000000/\dB d<=14:=by
 intro d hd
 match d,hd with
 |0,_=>decide
 |1,_=>decide
 |2,_=>decide
 |3,_=>decide
 |4,_=>decide
theorem Dx{p a:Addr}{H H':Hp}(e:ca p H H'):ca p (iW H a) (iW H' a):=fun b o q n=>by
 by_cases c:b=a
 ·rw[c,gm]at q;cases q
 ·rw[eM c]at q ⊢;exact e _ _ q n
theorem gW.hid2{H:Hp}{p c a:Addr}(h:gW H p c)(n1:p≠a)(n2:c≠a):gW (iW H a) p c:=by
 obtain⟨x,r,ns,h1⟩:=h;refine⟨x,r,ns,?_⟩;cases h1;constructor<;>first|assumption|(rw[eM n1];assumption)|(rw[eM n2];assumption)
def noX:TK×V->Prop:=fun _=>False
theorem IB:IM noX:=fun _ h=>h.elim
def CS(K:Za):TS :=
 aO (vw (aD xz (gP (iH K) (aA V0)) (tC (.int 4))) (aD xz (aD (hV K) V0 (tC (.int 0))) (tC (.str "tell"))))
def DZ:List Str:=["trial"]
def CQ(K:Za):TS :=
 aO (vw (aD xz (gP (iH K) (aA V0)) (tC (.int 3))) (aD xz (aD (hV K) V0 (tC (.int 0))) (tC (.str "wait"))))
def DY:List Str:=["trial"]
def pM(K:Za):TS :=
 aO (cA 2 [] (Du K V0) (iX K 2 (bm U0 (bm U1 (iO)))) (ic) (bR (aZ (bR (aw (tC (.str "say")) (aA V0))) V1)))
def qv:List Str:=["pairs"]
def tj(K:Za)(sp_is_wait:Sp)(sp_says_and_parts:Sp)(a_HUSH:Addr)(sp_is_tell:Sp):TS :=
 ap (cK (tB (aN sp_is_tell (aA V0))) (aO (aD kS (dg (aw (bR (aw (bR (aZ (tC (.str "ask")) (aD (hV K) V0 (tC (.int 1))))) (aA (aD (hV K) V0 (tC (.int 2)))))) bL)) (aN sp_says_and_parts (aA (aD (hV K) V0 (tC (.int 3))))))) (bC))
 (ap (cK (tB (aN sp_is_wait (aA V0))) (aO (aD kS (aN sp_says_and_parts (aA (aD (hV K) V0 (tC (.int 1))))) (dg (aw (bR (aZ (tC (.ref a_HUSH)) (aD (hV K) V0 (tC (.int 2))))) bL)))) (bC))
 (aO (dg (bL))))
def uE:List Str:=["trial"]
def tm(K:Za)(sp_signed_parts:Sp):TS :=
 ap (aI (dg (bL)) U3)
 (ap (eS (ui K (aA (aN sp_signed_parts (aA V2)))) (iX K 2 (bm U4 (bm U5 (iO)))) (ap (aI V5 (iX K 2 (bm U6 (bm U7 (iO)))))
 (cT (Ad K "list" eI V3 (aw (bR (du (aD (ER K) V0 (bR (aA V4))) (aD kS V1 (dg (aA V6))) V7)) bL)))))
 (aO V3))
def uF:List Str:=["way","story","trial","behind","number","signed","sign","part"]
def yH(K:Za)(sp_parts_behind:Sp):TS :=
 ap (aI (dg (bL)) U1)
 (ap (aI (dg (aA (bR (du (bR (bL)) (dg (bL)) V0)))) U2)
 (ap (tD (aW (aD u8 (gP (iH K) (aA V2)) (tC (.int 0)))) (ap (aI (Gq K "list" Io V2) (iX K 3 (bm U3 (bm U4 (bm U5 (iO))))))
 (ap (cT (Ad K "list" eI V1 (aA (bR (du V3 V4 V5)))))
 (ap (eS (IG K (aA (aN sp_parts_behind (du V3 V4 V5)))) U6 (cT (Ad K "list" eI V2 (aA V6))))
 (cK (Ea (aW (aD xz (gP (iH K) (aA V3)) (tC (.int 8)))) (aW (aD u8 (aD dh (gP (iH K) (aA V1)) (gP (iH K) (aA V2))) (tC (.int 1000))))) (pS) (bC))))))
 (aO V1)))
def zY:List Str:=["trial","found","waiting","way","story","here","one"]
def lX(K:Za)(C_Machine:Addr)(sp_Machine_says:Sp):TS :=
 aO (aD (u9 K) (cA 2 [] (Du K V1) (iX K 2 (bm U0 (bm U1 (iO)))) (ic) V0) (bZ C_Machine "says" sp_Machine_says [] E0 V0 bL))
def mh:List Str:=["M","pairs"]
def nX(K:Za)(a_BLAME:Addr)(a_END:Addr)(sp_is_wait:Sp)(sp_has_says_in_order:Sp)(sp_is_tell:Sp)(C_Machine:Addr)(sp_Machine_asks:Sp):TS :=
 ap (cK (tB (aN sp_is_tell (aA V1))) (aO (vw (aD (tN K false) (aD (hV K) V1 (tC (.int 1))) (bZ C_Machine "asks" sp_Machine_asks [] E0 V0 bL)) (aN sp_has_says_in_order (aZ V0 (aD (hV K) V1 (tC (.int 3))))))) (bC))
 (ap (cK (tB (aN sp_is_wait (aA V1))) (aO (aN sp_has_says_in_order (aZ V0 (aD (hV K) V1 (tC (.int 1)))))) (bC))
 (aO (Jb (aD (u9 K) V1 (tC (.ref a_END))) (aD (u9 K) V1 (tC (.ref a_BLAME))))))
def pe:List Str:=["M","trial"]
def lY(K:Za)(sp_is_so_by_itself:Sp)(sp_with_ways:Sp):TS :=
 ap (aI (aN sp_with_ways (aA V1)) U2)
 (ap (eS (b0 K V2) (iX K 3 (bm U3 (bm U4 (bm U5 (iO))))) (cK (Ih (tB (aN sp_is_so_by_itself (aZ V0 V5)))) (pS) (bC)))
 (aO V2))
def mi:List Str:=["M","trial","found","way","story","here"]
def wU(K:Za)(sp_checked_with_ways:Sp):TS :=
 cT (aN sp_checked_with_ways (aZ V0 V1))
def yh:List Str:=["M","trial"]
def pR(K:Za)(C_Made:Addr)(sp_Made_kinds_at:Sp)(sp_Made_count_of:Sp)(sp_signed_parts:Sp)(sp_Made_number_of_kind:Sp)(a_END:Addr)(a_BLAME:Addr):TS :=
 ap (cK (tB (yS V1)) (aO (tIf (aW (aD (GS K) V3 (tC (.ref a_BLAME)))) (tC (.int 0)) (tC .non))) (bC))
 (ap (cK (aW (aD (GS K) V3 (tC (.ref a_END)))) (aO (tC (.int 0))) (bC))
 (ap (cK (aW (aD xz V2 (tC (.int 0)))) (aO (tC .non)) (bC))
 (ap (aI (tC (.int 1)) U4)
 (ap (eS (b0 K (bZ C_Made "kinds_at" sp_Made_kinds_at [] E0 V0 (aA V1))) U5 (ap (cK (aW (aD (GS K) V5 (cA 2 [] (b0 K (aN sp_signed_parts (aA V3))) (iX K 2 (bm U0 (bm U1 (iO)))) (ic) V0))) (ap (aI (bZ C_Made "number_of_kind" sp_Made_number_of_kind [] E0 V0 (du V1 V2 V3)) U6)
 (aO (tIf (tB (yS V6)) (tC .non) (aD dh V4 V6)))) (bC))
 (Gs 4 (bZ C_Made "count_of" sp_Made_count_of [] E0 V0 (du V1 V2 V5)) (Jo fun i j=>i+j))))
 (aO (tC .non))))))
def qA:List Str:=["self","face","d","trial","ahead","signs","own"]
def km(K:Za)(sp_signed_parts:Sp)(C_Made:Addr)(sp_Made_count_at:Sp)(sp_Made_number_at:Sp)(sp_Made_steps_from:Sp):TS :=
 ap (aI (bZ C_Made "steps_from" sp_Made_steps_from [] E0 V0 (aA V1)) U4)
 (ap (aI (tC (.int 0)) U5)
 (ap (eS (b0 K (aN sp_signed_parts (aA V3))) (iX K 2 (bm U6 (bm U7 (iO)))) (ap (aI (bZ C_Made "number_at" sp_Made_number_at [] E0 V0 (du (pZ K V4 V6) (aD qP V2 (tC (.int 1))) V7)) U8)
 (ap (cK (tB (yS V8)) (aO (tC .non)) (bC))
 (aI (aD dh (aD zf V5 (bZ C_Made "count_at" sp_Made_count_at [] E0 V0 (aZ (pZ K V4 V6) (aD qP V2 (tC (.int 1)))))) V8) U5))))
 (aO V5)))
def kq:List Str:=["self","face","d","trial","steps","number","sign","part","own"]
def yI(K:Za)(C_Made:Addr)(sp_Made_init:Sp)(sp_Made_number_at:Sp)(bS:Sp)(ck:Sp)(sp_need_trial:Sp):TS :=
 ap (cT (aN sp_need_trial (aZ V0 V2)))
 (ap (cT (aN ck (aA V1)))
 (aO (bZ C_Made "number_at" sp_Made_number_at [] E0 (vv C_Made sp_Made_init [] E0 (aA V0)) (du (aN bS (aA V0)) V1 V2))))
def zZ:List Str:=["M","d","trial"]
def Go(K:Za)(sp_made_by:Sp)(sp_number_of:Sp)(sp_law_far:Sp)(sp_law_count:Sp)(sp_law_begin:Sp)(sp_law_take:Sp)(sp_law_machine:Sp)(sp_law_model:Sp)(sp_law_open:Sp):TS :=
 ap (aI (aN sp_law_open (aA V0)) U1)
 (ap (aI (aN sp_law_model (aw V1 (aw (tC (.int 6)) (aA (aN sp_law_take (aZ V1 (tC (.int 2)))))))) U2)
 (ap (aI (aN sp_law_machine (aA V2)) U3)
 (ap (aI (aD (d7 K) (dg (aw (tC (.int 3)) (aw (tC (.int 2)) (aw (tC (.int 1)) (du (tC (.int 0)) (tC (.int 2)) (tC (.int 3))))))) (aN sp_law_take (aZ V1 (tC (.int 6))))) U4)
 (ap (aI (aN sp_law_count (aw V2 (du (mZ) (aN sp_law_begin (aA V2)) V4))) U5)
 (ap (aI (dg (aZ (tC (.int 0)) (aD qP V5 (tC (.int 1))))) U6)
 (ap (eS (uh (aA (tC (.int 3)))) U7 (cT (Ad K "list" eI V6 (aA (aN sp_law_far (aZ V1 V5))))))
 (ap (aI (tC .non) U8)
 (ap (eS (b0 K (gP (EM K) (aA V6))) U9 (ap (aI (aN sp_made_by (du V3 V4 V9)) U10)
 (ap (aI (aN sp_number_of (du V3 (aD dh V4 (tC (.int 1))) IN)) U11)
 (ap (cK (Ea (tB (yS FX)) (aW (aD (Jd K) (aN sp_made_by (du V3 (aD dh V4 (tC (.int 1))) FX)) IN))) (aO (tC (.bl false))) (bC))
 (ap (cK (yX (aW (aD xz V9 (tC (.int 0)))) (aW (aD IV FX (tC (.int 0))))) (aO (tC (.bl false))) (bC))
 (ap (cK (yX (tB (BL V8)) (aW (aD IV (aD u8 FX (aD (hV K) V8 (tC (.int 1)))) (aD u8 V9 (aD (hV K) V8 (tC (.int 0))))))) (aO (tC (.bl false))) (bC))
 (aI (bR (aZ V9 FX)) U8)))))))
 (aO (tC (.bl true)))))))))))
def CC:List Str:=["script","pen","told","machine","deep","many","some","turn","before","number","trial","found"]
def EU:List Str:=["script"]
inductive Tr where
 |bl
 |en
 |nd (a:Option Str) (ps:List Tr)
mutual
def Tr.dt(J2:Zb):Tr->DT
 |.bl=>fB dF
 |.en=>fB fK
 |.nd a ps=>jd J2 a (Tr.dts J2 ps)
def Tr.dts(J2:Zb):List Tr->List DT
 |[]=>[]
 |t::r=>Tr.dt J2 t::Tr.dts J2 r
end
theorem Tr.dts_map(J2:Zb):∀l:List Tr,Tr.dts J2 l=l.map (Tr.dt J2)
 |[]=>rfl
 |t::r=>by rw[Tr.dts,Tr.dts_map J2 r];rfl
mutual
def Tr.wf(J0 J2:Zb):Tr->Prop
 |.bl=>True
 |.en=>True
 |.nd a ps=>ps.length=J2.length+1/\(∀w,a=some w->w∈J0)/\Tr.wfs J0 J2 ps
def Tr.wfs(J0 J2:Zb):List Tr->Prop
 |[]=>True
 |t::r=>Tr.wf J0 J2 t/\Tr.wfs J0 J2 r
end
theorem Tr.wfs_mem{J0 J2:Zb}:∀{l:List Tr},Tr.wfs J0 J2 l↔∀t∈l,Tr.wf J0 J2 t
 |[]=>by simp[Tr.wfs]
 |t::r=>by
  rw[Tr.wfs,Tr.wfs_mem (l:=r)];simp
structure En where
 way:List Nat
 story:List Sg
 tr:Tr
mutual
def kY(J2:Zb)(w:List Nat)(s:List Sg):Tr->List En
 |.bl=>[⟨w,s,.bl⟩]
 |.en=>[⟨w,s,.en⟩]
 |.nd a ps=>⟨w,s,.nd a ps⟩::preEs J2 w s (au J2 a) 0 ps
def preEs(J2:Zb)(w:List Nat)(s:List Sg)(sgs:List Sg)(i:Nat):List Tr->List En
 |[]=>[]
 |p::ps=>kY J2 (w++[i]) (s++(sgs.take 1)) p++preEs J2 w s (sgs.drop 1) (i+1) ps
end
def oY(w:List Nat)(s:List Sg)(sgs:List Sg)(i:Nat):List Tr->List En
 |[]=>[]
 |p::ps=>⟨w++[i],s++sgs.take 1,p⟩::oY w s (sgs.drop 1) (i+1) ps
def qg(J2:Zb)(e:En):List En :=
 match e.tr with
 |.nd a ps=>oY e.way e.story (au J2 a) 0 ps
 |_=>[]
def p9(J2:Zb)(e:En):List En:=kY J2 e.way e.story e.tr
theorem tP(J2:Zb)(w:List Nat)(s:List Sg):∀(ps:List Tr) (sgs:List Sg) (i:Nat),preEs J2 w s sgs i ps=(oY w s sgs i ps).flatMap (p9 J2)
 |[],_,_=>rfl
 |p::ps,sgs,i=>by
  rw[preEs,tP J2 w s ps];show _=List.flatMap _ (_::_);rw[List.flatMap_cons];rfl
theorem vA(J2:Zb)(e:En):p9 J2 e=e::(qg J2 e).flatMap (p9 J2):=by
 obtain⟨w,s,t⟩:=e;unfold p9 qg;cases t with
 |bl=>rfl
 |en=>rfl
 |nd a ps =>
  show _::preEs J2 w s (au J2 a) 0 ps=_;rw[tP];rfl
theorem EW(J2:Zb)(e:En):0<(p9 J2 e).length:=by rw[vA];exact Nat.succ_pos _
theorem zG{J0 J2:Zb}{w:List Nat}{s:List Sg}:∀{ps:List Tr}{sgs:List Sg}{i:Nat},(∀p∈ps,Tr.wf J0 J2 p)->∀e∈oY w s sgs i ps,Tr.wf J0 J2 e.tr
 |[],_,_,_,e,he=>by cases he
 |p::ps,sgs,i,h,e,he=>by
  rcases cy.1 he with rfl|he
  ·exact h p dI
  ·exact zG (fun q hq=>h q (dX _ hq)) e he
theorem Hg{J0 J2:Zb}{e:En}(h:Tr.wf J0 J2 e.tr):∀k∈qg J2 e,Tr.wf J0 J2 k.tr:=by
 obtain⟨w,s,t⟩:=e;cases t with
 |bl=>intro k hk;cases hk
 |en=>intro k hk;cases hk
 |nd a ps =>
  obtain⟨_,_,h3⟩:=h;exact zG (Tr.wfs_mem.1 h3)
mutual
def Tr.hgt:Tr->Nat
 |.bl=>0
 |.en=>0
 |.nd _ ps=>Tr.hgts ps+1
def Tr.hgts:List Tr->Nat
 |[]=>0
 |t::r=>max t.hgt (Tr.hgts r)
end
mutual
theorem zi(J2:Zb):∀(t:Tr) (w:List Nat) (s:List Sg),∀e∈kY J2 w s t,e.way.length<=w.length+t.hgt
 |.bl,w,s,e,he=>by rw[cC.1 he];exact sO _ _
 |.en,w,s,e,he=>by rw[cC.1 he];exact sO _ _
 |.nd a ps,w,s,e,he=>by
  rcases cy.1 he with rfl|he
  ·exact sO _ _
  ·have:=preEs_way J2 ps w s _ 0 e he;show _<=w.length+(Tr.hgts ps+1);omega
theorem preEs_way(J2:Zb):∀(ps:List Tr) (w:List Nat) (s sgs:List Sg) (i:Nat),∀e∈preEs J2 w s sgs i ps,e.way.length<=w.length+1+Tr.hgts ps
 |[],_,_,_,_,e,he=>by cases he
 |p::ps,w,s,sgs,i,e,he=>by
  have hm:Tr.hgts (p::ps)=max p.hgt (Tr.hgts ps):=rfl;rcases br.1 he with he|he
  ·have:=zi J2 p _ _ e he;rw[aE]at this;have e1:([i]:List Nat).length=1:=rfl;omega
  ·have:=preEs_way J2 ps w s _ (i+1) e he;omega
end
def Ii:Nat->Nat
 |0=>1
 |h+1=>1+5 * Ii h
mutual
theorem zj{J0 J2:Zb}(z:J2.length<=4):∀(h:Nat) (t:Tr) (w:List Nat) (s:List Sg),Tr.wf J0 J2 t->t.hgt<=h->(kY J2 w s t).length<=Ii h
 |0,.bl,_,_,_,_=>ax _
 |0,.en,_,_,_,_=>ax _
 |0,.nd a ps,_,_,_,hh=>absurd hh (by show ¬Tr.hgts ps+1<=0;omega)
 |h+1,.bl,_,_,_,_=>by show 1<=1+_;omega
 |h+1,.en,_,_,_,_=>by show 1<=1+_;omega
 |h+1,.nd a ps,w,s,hw,hh=>by
  obtain⟨h1,_,h3⟩:=hw;have hh:Tr.hgts ps+1<=h+1:=hh;have:=preEs_len z h ps w s (au J2 a) 0 h3 (by omega);show(preEs J2 w s (au J2 a) 0 ps).length+1<=1+5 * Ii h;have:ps.length * Ii h<=5 * Ii h:=dW _ (by omega);omega
theorem preEs_len{J0 J2:Zb}(z:J2.length<=4):∀(h:Nat) (ps:List Tr) (w:List Nat) (s sgs:List Sg) (i:Nat),Tr.wfs J0 J2 ps->Tr.hgts ps<=h->(preEs J2 w s sgs i ps).length<=ps.length * Ii h
 |h,[],_,_,_,_,_,_=>cG _
 |h,p::ps,w,s,sgs,i,hw,hh=>by
  have hm:Tr.hgts (p::ps)=max p.hgt (Tr.hgts ps):=rfl;have h1:=zj z h p (w++[i]) (s++sgs.take 1) hw.1 (by omega);have h2:=preEs_len z h ps w s (sgs.drop 1) (i+1) hw.2 (by omega);show(kY J2 (w++[i]) (s++sgs.take 1) p++preEs J2 w s (sgs.drop 1) (i+1) ps).length<=(ps.length+1) * Ii h;rw[aE,g8];omega
end
def iP(c:Sg->Int)(f:Sg->Int->Tr):List Sg->Int->List Tr
 |[],_=>[]
 |sg::r,n=>f sg (n % c sg)::iP c f r (n / c sg)
def nthT(J0 J2 J4:Zb)(ds:List ak):Nat->List Str->Int->Tr
 |0,J8,_=>if J8=[]then .bl else .en
 |d+1,J8,n=>if J8=[]then .bl else if n=0 then .en else
  match eC (prodA J0 J2 J4 ds d J8) ((askedF J0 J4 ds J8).map some++[none]) (n-1)with
  |none=>.en
  |some (a,m)=>.nd a (iP (fun sg=>cntM J0 J2 J4 ds d (behF J4 ds J8 sg)) (fun sg=>nthT J0 J2 J4 ds d (behF J4 ds J8 sg)) (au J2 a).reverse m).reverse
theorem vS(c:Sg->Int)(f:Sg->Int->Tr)(g:Tr->DT):∀(l:List Sg) (n:Int),(iP c f l n).map g=xR c (fun sg n=>g (f sg n)) l n
 |[],_=>rfl
 |sg::r,n=>by rw[iP,bg,vS c f g r];rfl
theorem qk(c:Sg->Int)(f:Sg->Int->Tr):∀(l:List Sg) (n:Int),(iP c f l n).length=l.length
 |[],_=>rfl
 |sg::r,n=>by
  show(iP c f r (n / c sg)).length+1=r.length+1;rw[qk c f r]
theorem vT{c:Sg->Int}{f:Sg->Int->Tr}{P:Tr->Prop}(h:∀sg m,P (f sg m)):∀(l:List Sg) (n:Int),∀x∈iP c f l n,P x
 |[],_,x,hx=>by cases hx
 |sg::r,n,x,hx=>by
  rcases cy.1 hx with rfl|hx
  ·exact h _ _
  ·exact vT h r _ x hx
theorem xC(J0 J2 J4:Zb)(ds:List ak):∀(d:Nat) (J8:Zb) (n:Int),(nthT J0 J2 J4 ds d J8 n).dt J2=nthM J0 J2 J4 ds d J8 n
 |0,J8,n=>by
  unfold nthT nthM;split<;>rfl
 |d+1,J8,n=>by
  unfold nthT nthM;by_cases h1:J8=[]
  ·rw[if_pos h1,if_pos h1];rfl
  rw[if_neg h1,if_neg h1];by_cases h2:n=0
  ·rw[if_pos h2,if_pos h2];rfl
  rw[if_neg h2,if_neg h2];cases eC (prodA J0 J2 J4 ds d J8) ((askedF J0 J4 ds J8).map some++[none]) (n-1)with
  |none=>rfl
  |some p =>
   obtain⟨a,m⟩:=p;show jd J2 a (Tr.dts J2 _)=laidM _ _ _ _ _ _ _ _ _;unfold laidM;rw[Tr.dts_map,List.map_reverse,vS];have e:(fun(sg:Sg) (n:Int)=>Tr.dt J2 (nthT J0 J2 J4 ds d (behF J4 ds J8 sg) n))=fun sg=>nthM J0 J2 J4 ds d (behF J4 ds J8 sg):=by
    funext sg m;exact xC J0 J2 J4 ds d _ m
   rw[e]
theorem js{c:Option Str->Int}:∀{A:List (Option Str)}{n:Int}{a:Option Str}{m:Int},eC c A n=some (a,m)->a∈A
 |[],_,_,_,h=>by cases h
 |b::r,n,a,m,h=>by
  unfold eC at h;split at h
  ·injection h with h;injection h with h _;rw[<-h];exact dI
  ·exact dX _ (js h)
theorem DQ{J0 J4 J8:Zb}{ds:List ak}{w:Str}(h:some w∈(askedF J0 J4 ds J8).map some++[none]):w∈J0:=by
 rcases br.1 h with h|h
 ·obtain⟨x,hx,e⟩:=aL.1 h;injection e with e;rw[<-e];exact(fb.1 hx).1
 ·cases cC.1 h
theorem sm(J0 J2 J4:Zb)(ds:List ak):∀(d:Nat) (J8:Zb) (n:Int),(nthT J0 J2 J4 ds d J8 n).wf J0 J2/\(nthT J0 J2 J4 ds d J8 n).hgt<=d
 |0,J8,n=>by
  unfold nthT;split<;>exact⟨trivial,ax _⟩
 |d+1,J8,n=>by
  unfold nthT;split
  ·exact⟨trivial,cG _⟩
  ·split
   ·exact⟨trivial,cG _⟩
   ·split
    ·exact⟨trivial,cG _⟩
    ·next a m e =>
     have key:∀t∈(iP (fun sg=>cntM J0 J2 J4 ds d (behF J4 ds J8 sg)) (fun sg=>nthT J0 J2 J4 ds d (behF J4 ds J8 sg)) (au J2 a).reverse m).reverse,t.wf J0 J2/\t.hgt<=d:=fun t ht=>vT (P:=fun t=>t.wf J0 J2/\t.hgt<=d) (fun sg m=>sm J0 J2 J4 ds d _ m) _ _ t (List.mem_reverse.1 ht);have hg:∀l:List Tr,(∀t∈l,t.hgt<=d)->Tr.hgts l<=d:=fun l=>by
      induction l with
      |nil=>exact fun _=>cG _
      |cons t r ih =>
       intro h;have h1:=h t dI;have h2:=ih fun q hq=>h q (dX _ hq);show max t.hgt (Tr.hgts r)<=d;omega
     refine⟨⟨?_,fun w hw=>?_,Tr.wfs_mem.2 fun t ht=>(key t ht).1⟩,?_⟩
     ·rw[hE,qk,hE,cf]
     ·rw[hw]at e;exact DQ (js e)
     ·exact Nat.succ_le_succ (hg _ fun t ht=>(key t ht).2)
theorem qr.of{K:Za}{H:Hp}:∀{ps:List DT}{vs:List V},TrCs K H ps vs->qr K H vs ps
 |[],vs,h=>by
  have h:vs=[]:=h;rw[h];exact .nil
 |p::ps,vs,h=>by
  obtain⟨v,us,rfl,h1,h2⟩:=h;exact .cons h1 (qr.of h2)
inductive jN(K:Za)(n:Nat)(w:Str)(vs:List V)(H:Hp)(Q:VK)(E:XK):Prop
 |mk (v:V) (s:Str) (r:List DT):(vs=[v])->(fj K H (.t (eZ s::r)) v)->(Q (.bl (decide (r.length+1=n) && decide (s=w))) H)->jN K n w vs H Q E
theorem Cj{xs:List V}{r:List DT}{n:Nat}(h:xs.length=r.length+1):decide (V.int (xs.length:Nat)=V.int (n:Nat))=decide (r.length+1=n):=by
 rw[h];exact decide_eq_decide.2 ⟨fun z=>by injection z with z;omega,fun z=>by rw[z]⟩
theorem dec_str{s w:Str}:decide (V.str s=V.str w)=decide (s=w):=decide_eq_decide.2 ⟨fun z=>by injection z,fun z=>by rw[z]⟩
theorem Dd{K:Za}{vs:List V}{H:Hp}{Q:VK}{E:XK}(h:jN K 4 "tell" vs H Q E):CS K (be Q) (start DZ vs) H:=by
 obtain⟨v,s,r,rfl,⟨b,xs,rfl,ht,hx⟩,k⟩:=h;have hp:=qr.of hx;have hl:=Paired.length hp;obtain⟨y,us,rfl,e0,_⟩:=hx;have e0:y=V.str s:=e0;subst e0;refine⟨_,rfl,.inl ⟨b,_,rfl,.inr (aV.sq ht),rfl,_,rfl,?_⟩⟩;rw[show decide (V.int ((V.str s::us).length:Nat)=V.int 4)=decide (r.length+1=4)from Cj (n:=4) hl];by_cases c:r.length+1=4
 ·rw[zzr1 c]at k ⊢;refine bX ⟨_,rfl,b,_,0,.str s,rfl,rfl,aV.sq ht,aX (j:=0) rfl,rfl,?_⟩;rw[dec_str];exact k
 ·rw[zzr0 c]at k ⊢;exact bj k
theorem Dc{K:Za}{vs:List V}{H:Hp}{Q:VK}{E:XK}(h:jN K 3 "wait" vs H Q E):CQ K (be Q) (start DY vs) H:=by
 obtain⟨v,s,r,rfl,⟨b,xs,rfl,ht,hx⟩,k⟩:=h;have hp:=qr.of hx;have hl:=Paired.length hp;obtain⟨y,us,rfl,e0,_⟩:=hx;have e0:y=V.str s:=e0;subst e0;refine⟨_,rfl,.inl ⟨b,_,rfl,.inr (aV.sq ht),rfl,_,rfl,?_⟩⟩;rw[show decide (V.int ((V.str s::us).length:Nat)=V.int 3)=decide (r.length+1=3)from Cj (n:=3) hl];by_cases c:r.length+1=3
 ·rw[zzr1 c]at k ⊢;refine bX ⟨_,rfl,b,_,0,.str s,rfl,rfl,aV.sq ht,aX (j:=0) rfl,rfl,?_⟩;rw[dec_str];exact k
 ·rw[zzr0 c]at k ⊢;exact bj k
def Hy(K:Za)(H:Hp)(q:Addr)(p:Sg×DT):Prop:=∃s v,H q=some (.tup [.ref s,v])/\aV K H s (p.1.map V.str)/\fj K H p.2 v
theorem Hy.kt{K:Za}{H H':Hp}{q:Addr}{p:Sg×DT}(k:ik H H')(h:Hy K H q p):Hy K H' q p:=by
 obtain⟨s,v,h1,h2,h3⟩:=h;exact⟨s,v,k _ _ h1,aV.kt k h2,fj.kt k _ _ h3⟩
abbrev ki(K:Za)(H:Hp)(qs:Ze)(L:List (Sg×DT)):Prop:=Paired (Hy K H) qs L
theorem ki.kt{K:Za}{H H':Hp}{qs:Ze}{L:List (Sg×DT)}(k:ik H H')(h:ki K H qs L):ki K H' qs L:=Paired.mapP h fun _ _ r=>r.kt k
inductive ig(K:Za)(vs:List V)(H:Hp)(Q:VK)(E:XK):Prop
 |mk (v:V) (ws:Zb) (ps:List DT):(vs=[v])->(fj K H (.t (jc kg ws ps)) v)->(ws.length=ps.length)->(ws.length<=1000)->(∀(l:Addr) (qs:Ze) (H':Hp),H' l=some (.lst (qs.map V.ref))->ki K H' qs ((ws.map cu).zip ps)->ab H H'->Q (.ref l) H')->ig K vs H Q E
theorem xw{K:Za}{vs:List V}{H:Hp}{Q:VK}{E:XK}(h:ig K vs H Q E):pM K (be Q) (start qv vs) H:=by
 obtain⟨v,ws,ps,rfl,⟨b,xs,rfl,ht,hx⟩,zl,z,k⟩:=h;have hp:=qr.of hx;have hl:=Paired.length hp;rw[List.length_zipWith]at hl;refine⟨_,rfl,b,rfl,⟨_,aV.sq ht⟩,fun l hl0=>?_⟩;refine pb (xs:=xs) (fun i us H'=>∃qs:List Addr,us=qs.map V.ref/\ab H H'/\H' l=some (.lst us)/\ki K H' qs (((ws.take i).map cu).zip (ps.take i))) ⟨[],rfl,ab.new hl0,aa,.nil⟩ (fun i us H' _ ⟨_,_,S,h',_⟩=>⟨h',aV.sq (aV.kt (ab.kt S) ht)⟩) ?_ ?_
 ·rintro us H' ⟨qs,rfl,S,h',hq⟩;have e1:xs.length=ws.length:=by omega
  rw[e1,aS,zl,aS]at hq;exact k l qs H' h' hq S
 ·rintro i us H1 x hxi hi ⟨qs,rfl,S,h1,hq⟩;obtain⟨d,hd⟩:∃d,ps[i]?=some d:=⟨_,cN (by omega)⟩;obtain⟨w,hw⟩:∃w,ws[i]?=some w:=⟨_,cN (by omega)⟩;obtain⟨y,hy,hyx⟩:=Paired.getL hp hxi;rw[List.getElem?_zipWith,hw,hd]at hy;injection hy with hy;rw[<-hy]at hyx;obtain⟨c,us',rfl,hc,x1,us1,rfl,hx1,x2,us2,rfl,hx2,e3⟩:=hyx;have e3:us2=[]:=e3;subst e3;cases hx1;have hc1:=aV.kt (ab.kt S) hc;refine⟨c,_,rfl,aV.sq hc1,rfl,_,_,rfl,_,_,rfl,rfl,pH ?_⟩;refine⟨_,rfl,(by show 2<=aj;decide),fun p hp1=>⟨_,rfl,(by show 2<=aj;decide),fun q hq1=>?_⟩⟩;have S2:ab H1 (upd H1 p (.tup [.str "say",.str w])):=ab.new hp1;have p2:upd H1 p (.tup [.str "say",.str w]) p=some (.tup ((cu w).map V.str)):=aa
  change upd H1 p (.tup [.str "say",.str w]) q=none at hq1
  have S3:ab (upd H1 p (.tup [.str "say",.str w])) (upd (upd H1 p (.tup [.str "say",.str w])) q (.tup [.ref p,x2])):=ab.new hq1;have q3:upd (upd H1 p (.tup [.str "say",.str w])) q (.tup [.ref p,x2]) q=some (.tup [.ref p,x2]):=aa;have p3:=S3 _ _ p2;have S13:=S2.trans S3;have h3:=S13 _ _ h1;refine⟨h3,?_,ni hi ⟨qs++[q],by rw[ar];rfl,fun b o e=>?_,aa,?_⟩⟩
  ·rw[ai,Paired.length hq,kA,ai,aM];exact am (by omega)
  ·rw[ah (ae e hl0)];exact S13 _ _ (S _ _ e)
  ·have kt:ik (upd (upd H1 p (.tup [.str "say",.str w])) q (.tup [.ref p,x2])) (upd (upd (upd H1 p (.tup [.str "say",.str w])) q (.tup [.ref p,x2])) l (.lst (qs.map V.ref++[.ref q]))):=eU h3;rw[take_snoc hw,take_snoc hd,ar,List.zip_append (by rw[ai,aM,aM];omega)];refine ef (ki.kt (fun b xs e=>kt _ _ (ab.kt S13 _ _ e)) hq) ?_;exact⟨p,x2,kt _ _ q3,.inl (kt _ _ p3),fj.kt (fun b xs e=>kt _ _ (ab.kt (S.trans S13) _ _ e)) _ _ hx2⟩
def HJ(J2:Zb):Tr->List (Sg×DT)
 |.nd a ps=>(au J2 a).zip (Tr.dts J2 ps)
 |_=>[]
def Tr.ok(J2:Zb):Tr->Prop
 |.nd _ ps=>ps.length=J2.length+1
 |_=>True
theorem Tr.wf.ok{J0 J2:Zb}:∀{t:Tr},t.wf J0 J2->t.ok J2
 |.bl,_=>trivial
 |.en,_=>trivial
 |.nd _ _,h=>h.1
inductive iq(K:Za)(vs:List V)(H:Hp)(Q:VK)(E:XK):Prop
 |mk (v:V) (T:Tr) (J2:Zb):(vs=[v])->(fj K H (T.dt J2) v)->(T.ok J2)->(J2.length<=4)->(∀(l:Addr) (qs:Ze) (H':Hp),H' l=some (.lst (qs.map V.ref))->ki K H' qs (HJ J2 T)->ab H H'->Q (.ref l) H')->iq K vs H Q E
theorem C2{K:Za}{hu:Addr}(hh:∀H,bE K H hu (bF.map V.str)){vs:List V}{H:Hp}{Q:VK}{E:XK}(h:iq K vs H Q E):tj K (jN K 3 "wait") (ig K) hu (jN K 4 "tell") (be Q) (start uE vs) H:=by
 obtain⟨v,T,J2,rfl,hv,ok,z4,k⟩:=h;cases T with
 |bl =>
  refine⟨_,rfl,v,"blame",[],rfl,hv,_,rfl,?_⟩;refine bj ⟨_,rfl,v,"blame",[],rfl,hv,_,rfl,?_⟩;refine bj ⟨(by show 0<=aj;decide),fun l hl=>k l [] _ aa .nil (ab.new hl)⟩
 |en =>
  refine⟨_,rfl,v,"end",[],rfl,hv,_,rfl,?_⟩;refine bj ⟨_,rfl,v,"end",[],rfl,hv,_,rfl,?_⟩;refine bj ⟨(by show 0<=aj;decide),fun l hl=>k l [] _ aa .nil (ab.new hl)⟩
 |nd a ps =>
  have ok:ps.length=J2.length+1:=ok;have zd:(Tr.dts J2 ps).length=J2.length+1:=by rw[Tr.dts_map,ai,ok]
  have hv:fj K H (jd J2 a (Tr.dts J2 ps)) v:=hv;have k:∀(l:Addr) (qs:Ze) (H':Hp),H' l=some (.lst (qs.map V.ref))->ki K H' qs ((au J2 a).zip (Tr.dts J2 ps))->ab H H'->Q (.ref l) H':=k;generalize Tr.dts J2 ps=dps at zd hv k;cases a with
  |some a =>
   obtain⟨d0,ed0⟩:∃d,dps[0]?=some d:=⟨_,cN (by omega)⟩;rw[kH ed0]at hv;have ec:dps=d0::dps.drop 1:=by
    cases dps with
    |nil=>cases ed0
    |cons x r=>injection ed0 with ed0;rw[ed0];rfl
   refine⟨_,rfl,v,"tell",_,rfl,hv,_,rfl,?_⟩;obtain⟨b,xs,rfl,ht,x0,us0,rfl,e0,x1,us1,rfl,e1,x2,us2,rfl,e2,x3,us3,rfl,e3,e4⟩:=hv;have e4:us3=[]:=e4;subst e4;cases e0;cases e1;refine bX ?_;refine⟨_,rfl,b,_,1,.str a,rfl,rfl,aV.sq ht,aX (j:=1) rfl,(by show 2<=aj;decide),fun p1 hp1=>?_⟩;have S1:ab H (upd H p1 (.tup [.str "ask",.str a])):=ab.new hp1;have p11:upd H p1 (.tup [.str "ask",.str a]) p1=some (.tup ((c8 a).map V.str)):=aa;generalize upd H p1 (.tup [.str "ask",.str a])=H1 at S1 p11 ⊢;refine⟨_,rfl,b,_,2,x2,rfl,rfl,aV.sq (aV.kt (ab.kt S1) ht),aX (j:=2) rfl,(by show 2<=aj;decide),fun p2 hp2=>⟨(by show 1<=aj;decide),fun l1 hl1=>?_⟩⟩;have S2:ab H1 (upd H1 p2 (.tup [.ref p1,x2])):=ab.new hp2;have p22:upd H1 p2 (.tup [.ref p1,x2]) p2=some (.tup [.ref p1,x2]):=aa
   change upd H1 p2 (.tup [.ref p1,x2]) l1=none at hl1
   have S3:ab (upd H1 p2 (.tup [.ref p1,x2])) (upd (upd H1 p2 (.tup [.ref p1,x2])) l1 (.lst [.ref p2])):=ab.new hl1;have l13:upd (upd H1 p2 (.tup [.ref p1,x2])) l1 (.lst [.ref p2]) l1=some (.lst [.ref p2]):=aa;have p23:=S3 _ _ p22;have S13:=S2.trans S3;generalize upd (upd H1 p2 (.tup [.ref p1,x2])) l1 (.lst [.ref p2])=H3 at S13 l13 p23 ⊢;have S03:=S1.trans S13;refine⟨_,rfl,b,_,3,x3,rfl,rfl,aV.sq (aV.kt (ab.kt S03) ht),aX (j:=3) rfl,x3,J2,dps.drop 1,rfl,fj.kt (ab.kt S03) _ _ e3,by rw[fA];omega,by omega,fun l2 qs H4 h4 hq S4=>?_⟩;have zq:qs.length<=4:=by rw[Paired.length hq,kA,ai];omega
   refine⟨l1,l2,_,_,rfl,rfl,S4 _ _ l13,h4,by rw[ai];exact c6 (am (by show 1+_<=1000;omega)),fun l hl=>?_⟩;have S5:ab H4 (upd H4 l (.lst ([V.ref p2]++qs.map V.ref))):=ab.new hl;refine k l (p2::qs) _ aa ?_ ((S03.trans S4).trans S5);rw[ec];have S35:=S4.trans S5;exact .cons ⟨p1,x2,S35 _ _ p23,.inl (S35 _ _ (S13 _ _ p11)),fj.kt (ab.kt (S03.trans S35)) _ _ e2⟩ (ki.kt (ab.kt S5) hq)
  |none =>
   obtain⟨d0,ed0⟩:∃d,dps[J2.length]?=some d:=⟨_,cN (by omega)⟩;rw[kI ed0]at hv;have ec:dps=dps.take J2.length++[d0]:=by rw[<-take_snoc ed0,<-zd,aS]
   refine⟨_,rfl,v,"wait",_,rfl,hv,_,rfl,?_⟩;refine bj ⟨_,rfl,v,"wait",_,rfl,hv,_,rfl,?_⟩;obtain⟨b,xs,rfl,ht,x0,us0,rfl,e0,x1,us1,rfl,e1,x2,us2,rfl,e2,e4⟩:=hv;have e4:us2=[]:=e4;subst e4;cases e0;refine bX ?_;refine⟨_,rfl,b,_,1,x1,rfl,rfl,aV.sq ht,aX (j:=1) rfl,x1,J2,dps.take J2.length,rfl,e1,by rw[aM];omega,by omega,fun l2 qs H1 h1 hq S1=>?_⟩;have zq:qs.length<=4:=by rw[Paired.length hq,kA,ai];omega
   refine⟨_,rfl,b,_,2,x2,rfl,rfl,aV.sq (aV.kt (ab.kt S1) ht),aX (j:=2) rfl,(by show 2<=aj;decide),fun p2 hp2=>⟨(by show 1<=aj;decide),fun l1 hl1=>?_⟩⟩;have S2:ab H1 (upd H1 p2 (.tup [.ref hu,x2])):=ab.new hp2;have p22:upd H1 p2 (.tup [.ref hu,x2]) p2=some (.tup [.ref hu,x2]):=aa
   change upd H1 p2 (.tup [.ref hu,x2]) l1=none at hl1
   have S3:ab (upd H1 p2 (.tup [.ref hu,x2])) (upd (upd H1 p2 (.tup [.ref hu,x2])) l1 (.lst [.ref p2])):=ab.new hl1;have l13:upd (upd H1 p2 (.tup [.ref hu,x2])) l1 (.lst [.ref p2]) l1=some (.lst [.ref p2]):=aa;have p23:=S3 _ _ p22;have S13:=S2.trans S3;generalize upd (upd H1 p2 (.tup [.ref hu,x2])) l1 (.lst [.ref p2])=H3 at S13 l13 p23 ⊢;refine⟨l2,l1,_,_,rfl,rfl,S13 _ _ h1,l13,by rw[ai];exact c6 (am (by show _+1<=1000;omega)),fun l hl=>?_⟩;have S5:ab H3 (upd H3 l (.lst (qs.map V.ref++[.ref p2]))):=ab.new hl;have S15:=S13.trans S5;refine k l (qs++[p2]) _ (by rw[aa,ar];rfl) ?_ (S1.trans S15);rw[ec];show ki K _ _ ((J2.map cu++[bF]).zip _);rw[List.zip_append (by rw[ai,aM];omega)];exact ef (ki.kt (ab.kt S15) hq) ⟨hu,x2,S5 _ _ p23,nU hh _,fj.kt (ab.kt (S1.trans S15)) _ _ e2⟩
def yE(w:List Nat):List V:=w.map fun(n:Nat)=>V.int n
def mn(K:Za)(J2:Zb)(J:Hp)(q:Addr)(e:En):Prop:=∃(wr st:Addr) (v:V),J q=some (.tup [.ref wr,.ref st,v])/\J wr=some (.tup (yE e.way))/\cV K J st e.story/\fj K J (e.tr.dt J2) v
theorem mn.same{K:Za}{J2:Zb}{J J':Hp}{q:Addr}{e:En}(S:ab J J')(h:mn K J2 J q e):mn K J2 J' q e:=by
 obtain⟨wr,st,v,h1,h2,⟨gs,h3,h4⟩,h5⟩:=h;exact⟨wr,st,v,S _ _ h1,S _ _ h2,⟨gs,S _ _ h3,Paired.mapP h4 fun _ _ r=>aV.kt (ab.kt S) r⟩,fj.kt (ab.kt S) _ _ h5⟩
theorem Ht{K:Za}{H:Hp}{wr t1:Addr}{way:List Nat}{i:Nat}{R:VK}(hw:H wr=some (.tup (yE way)))(ht:H t1=some (.tup [.int (i:Nat)]))(hz:way.length<=999)(k:∀(wt:Addr) (Hx:Hp),Hx wt=some (.tup (yE (way++[i])))->ab H Hx->R (.ref wt) Hx):ER K (.ref wr) (.ref t1) H R:=by
 refine⟨wr,t1,_,_,rfl,rfl,bE.of hw,bE.of ht,(by intro z;cases z),?_,fun z=>?_,fun z p hp=>?_⟩
 ·have:(yE way).length=way.length:=ai _;rw[this];exact c6 (am (by show _+1<=1000;omega))
 ·have:way=[]:=wg.1 z;subst this;exact k t1 H ht (ab.refl _)
 ·refine k p _ ?_ (ab.new hp);rw[aa];unfold yE;rw[ar];rfl
theorem vI{w:List Nat}{s:List Sg}:∀{ps:List Tr}{sgs:List Sg}{i j:Nat}{p:Tr}{sg:Sg},ps[j]?=some p->sgs[j]?=some sg->(oY w s sgs i ps)[j]?=some ⟨w++[i+j],s++[sg],p⟩
 |[],_,_,_,_,_,h,_=>by cases h
 |p0::ps,[],_,_,_,_,_,h=>by cases h
 |p0::ps,sg0::sgs,i,0,p,sg,h1,h2=>by
  injection h1 with h1;injection h2 with h2;rw[<-h1,<-h2];rfl
 |p0::ps,sg0::sgs,i,j+1,p,sg,h1,h2=>by
  have:=vI (w:=w) (s:=s) (i:=i+1) (ps:=ps) (sgs:=sgs) (j:=j) (p:=p) (sg:=sg) h1 h2;rw[show i+(j+1)=i+1+j by omega];exact this
theorem vH{w:List Nat}{s:List Sg}:∀{ps:List Tr}{sgs:List Sg}{i:Nat},(oY w s sgs i ps).length=ps.length
 |[],_,_=>rfl
 |p0::ps,sgs,i=>by
  show(oY w s (sgs.drop 1) (i+1) ps).length+1=ps.length+1;rw[vH]
theorem Fq{J2:Zb}{e:En}(h:e.tr.ok J2):(qg J2 e).length=(HJ J2 e.tr).length:=by
 obtain⟨w,s,t⟩:=e;cases t with
 |bl=>rfl
 |en=>rfl
 |nd a ps =>
  have h:ps.length=J2.length+1:=h;show(oY w s (au J2 a) 0 ps).length=((au J2 a).zip (Tr.dts J2 ps)).length;rw[vH,kA,cf,Tr.dts_map,ai];omega
theorem Fs{J2:Zb}{e:En}{i:Nat}{x:Sg×DT}(h:e.tr.ok J2)(hx:(HJ J2 e.tr)[i]?=some x):∃p:Tr,(qg J2 e)[i]?=some ⟨e.way++[i],e.story++[x.1],p⟩/\p.dt J2=x.2:=by
 obtain⟨w,s,t⟩:=e;cases t with
 |bl=>cases hx
 |en=>cases hx
 |nd a ps =>
  have h:ps.length=J2.length+1:=h;have hx:((au J2 a).zip (Tr.dts J2 ps))[i]?=some x:=hx;rw[List.getElem?_zip_eq_some]at hx;obtain⟨h1,h2⟩:=hx;rw[Tr.dts_map,de]at h2;obtain⟨p,hp,e2⟩:=mF.1 h2;refine⟨p,?_,e2⟩;have:=vI (w:=w) (s:=s) (i:=0) hp h1;rw[Nat.zero_add]at this;exact this
def F0(H:Hp)(c:Addr)(H' J:Hp):Prop:=(∀b o,H' b=some o->H b=none->b≠c->J b=some o)/\ik H' J
inductive lE(K:Za)(vs:List V)(H:Hp)(Q:VK)(E:XK):Prop
 |mk (wr st:Addr) (v:V) (e:En) (J2:Zb):(vs=[.ref wr,.ref st,v])->(H wr=some (.tup (yE e.way)))->(cV K H st e.story)->(fj K H (e.tr.dt J2) v)->(e.tr.ok J2)->(J2.length<=4)->(e.way.length<=900)->(e.story.length<=900) ->
  (∀(l:Addr) (qs:Ze) (H':Hp),H' l=some (.lst (qs.map V.ref))->H l=none->(∀J,F0 H l H' J->Paired (mn K J2 J) qs (qg J2 e))->ab H H'->Q (.ref l) H')->lE K vs H Q E
theorem C3{K:Za}{vs:List V}{H:Hp}{Q:VK}{E:XK}(h:lE K vs H Q E):tm K (iq K) (be Q) (start uF vs) H:=by
 obtain⟨wr,st,v,e,J2,rfl,hw,⟨gs,hst,hgs⟩,hv,ok,z4,zw,zs,k⟩:=h;refine⟨(by show 0<=aj;decide),fun bl hbl=>?_⟩;have S1:ab H (upd H bl (.lst [])):=ab.new hbl;have b1:upd H bl (.lst []) bl=some (.lst []):=aa;generalize upd H bl (.lst [])=H1 at S1 b1 ⊢;refine⟨_,rfl,v,e.tr,J2,rfl,fj.kt (ab.kt S1) _ _ hv,ok,z4,fun sl sq H2 hsl hsq S2=>⟨sl,rfl,⟨_,az.of hsl⟩,?_⟩⟩;have S02:=S1.trans S2;have b2:=S2 _ _ b1;have nsl:sl≠bl∨sq=[]:=by
  by_cases c:sl=bl
  ·right
   rw[c,b2]at hsl;injection hsl with hsl;injection hsl with hsl;exact wg.1 hsl.symm
  ·exact .inl c
 have kl:=Fq (J2:=J2) (e:=e) ok;have ql:=Paired.length hsq;have q5:(HJ J2 e.tr).length<=5:=by
  generalize e.tr=T at ok;cases T with
  |bl=>exact cG _
  |en=>exact cG _
  |nd a ps=>show((au J2 a).zip _).length<=5;rw[kA,cf];omega
 refine jy (xs:=sq.map V.ref) (fun i σ H'=>∃(qs:Ze) (x4 x5 x6 x7:Option V),σ=[some (.ref wr),some (.ref st),some v,some (.ref bl),x4,x5,x6,x7]/\H' bl=some (.lst (qs.map V.ref))/\qs.length=i/\(∀b o,H2 b=some o->b≠bl->H' b=some o)/\∀J,F0 H bl H' J->Paired (mn K J2 J) qs ((qg J2 e).take i))
  ⟨[],_,_,_,_,rfl,b2,rfl,fun _ _ q _=>q,fun J _=>.nil⟩ (fun i σ H' hi ⟨qs,_,_,_,_,_,hb,zq,ex,_⟩=>?_) ?_ ?_
 ·rcases nsl with n|n
  ·exact az.of (ex _ _ hsl n)
  ·rw[n]at hi hsl ⊢;by_cases c:sl=bl
   ·have:qs=[]:=by cases qs with|nil=>rfl|cons a r=>exact absurd hi (by rw[<-zq];show ¬_<=0;simp)
    rw[this]at hb;rw[c];exact az.of hb
   ·exact az.of (ex _ _ hsl c)
 ·rintro i x σ H3 p hi ⟨qs,x4,x5,x6,x7,rfl,hb,zq,ex,hk⟩ hp;obtain⟨q,hq,rfl⟩:=bQ hi;obtain⟨y,hy,s,pv,hqs,hs,hpv⟩:=Paired.getL hsq hq;obtain⟨T,hT,eT⟩:=Fs ok hy;have il:i<(HJ J2 e.tr).length:=(bY.1 hy).1;have nb:∀{b xs},H2 b=some (.tup xs)->H3 b=some (.tup xs):=fun{b xs} q=>ex _ _ q fun z=>by rw[z,b2]at q;cases q
  have S4:ab H3 (upd H3 p (.tup [.int (i:Nat),.ref q])):=ab.new hp;have p4:upd H3 p (.tup [.int (i:Nat),.ref q]) p=some (.tup [.int (i:Nat),.ref q]):=aa;generalize upd H3 p (.tup [.int (i:Nat),.ref q])=H4 at S4 p4 ⊢;refine⟨p,_,rfl,bE.of p4,rfl,_,_,rfl,_,_,rfl,rfl,?_⟩;refine⟨_,rfl,q,_,rfl,bE.of (S4 _ _ (nb hqs)),rfl,_,_,rfl,_,_,rfl,rfl,?_⟩;refine⟨_,rfl,.inl ⟨rfl,_,az.of (S4 _ _ hb)⟩,_,rfl,_,rfl,(by show 1<=aj;decide),fun t1 ht1=>?_⟩;have S5:ab H4 (upd H4 t1 (.tup [.int (i:Nat)])):=ab.new ht1;have t5:upd H4 t1 (.tup [.int (i:Nat)]) t1=some (.tup [.int (i:Nat)]):=aa;generalize upd H4 t1 (.tup [.int (i:Nat)])=H5 at S5 t5 ⊢;have S35:=S4.trans S5;have S0x:∀{b o},H b=some o->H3 b=some o:=fun{b o} q=>ex _ _ (S02 _ _ q) (ae q hbl);refine Ht (S35 _ _ (S0x hw)) t5 (by omega) fun wt H6 hwt S6=>?_;have S36:=S35.trans S6;refine⟨_,rfl,_,rfl,(by show 1<=aj;decide),fun l1 hl1=>?_⟩;have S7:ab H6 (upd H6 l1 (.lst [.ref s])):=ab.new hl1;have l17:upd H6 l1 (.lst [.ref s]) l1=some (.lst [.ref s]):=aa;generalize upd H6 l1 (.lst [.ref s])=H7 at S7 l17 ⊢;have S37:=S36.trans S7;have gl:gs.length=e.story.length:=Paired.length hgs;refine⟨st,l1,_,_,rfl,rfl,S37 _ _ (S0x hst),l17,by rw[ai];exact c6 (am (by show _+1<=1000;omega)),fun l2 hl2=>?_⟩;have S8:ab H7 (upd H7 l2 (.lst (gs.map V.ref++[.ref s]))):=ab.new hl2;have l28:upd H7 l2 (.lst (gs.map V.ref++[.ref s])) l2=some (.lst ((gs++[s]).map V.ref)):=by rw[aa,ar];rfl
  have l2n:H l2=none:=by
   cases c:H l2 with
   |none=>rfl
   |some o=>have:=S37 _ _ (S0x c);rw[hl2]at this;cases this
  generalize upd H7 l2 (.lst (gs.map V.ref++[.ref s]))=H8 at S8 l28 ⊢;have S38:=S37.trans S8;refine⟨_,rfl,(by show 3<=aj;decide),fun q9 hq9=>?_⟩;have S9:ab H8 (upd H8 q9 (.tup [.ref wt,.ref l2,pv])):=ab.new hq9;have q99:upd H8 q9 (.tup [.ref wt,.ref l2,pv]) q9=some (.tup [.ref wt,.ref l2,pv]):=aa;generalize upd H8 q9 (.tup [.ref wt,.ref l2,pv])=H9 at S9 q99 ⊢;have S39:=S38.trans S9;have hb9:=S39 _ _ hb;have nl2:l2≠bl:=fun z=>by have:=S37 _ _ hb;rw[<-z,hl2]at this;cases this
  have kt9:ik H9 (upd H9 bl (.lst (qs.map V.ref++[.ref q9]))):=eU hb9;refine⟨bl,_,_,rfl,rfl,hb9,by rw[ai,zq];exact am (by omega),qs++[q9],_,_,_,_,rfl,by rw[aa,ar];rfl,by rw[aE,zq];rfl,fun b o q n=>?_,fun J nj=>?_⟩
  ·rw[ah n];exact S39 _ _ (ex _ _ q n)
  ·have kj:ik H9 J:=fun b xs q=>nj.2 _ _ (kt9 _ _ q);have nj3:F0 H bl H3 J:=⟨fun b o q n1 n2=>nj.1 b o (by rw[ah n2];exact S39 _ _ q) n1 n2,fun b xs q=>kj _ _ (ab.kt S39 _ _ q)⟩;rw[take_snoc hT];refine ef (hk J nj3) ?_;have kt2:ik H2 J:=fun b xs q=>kj _ _ (ab.kt S39 _ _ (nb q));refine⟨wt,l2,pv,kj _ _ q99,kj _ _ (S9 _ _ (S8 _ _ (S7 _ _ hwt))),⟨gs++[s],nj.1 l2 _ (by rw[ah nl2];exact S9 _ _ l28) l2n nl2,?_⟩,?_⟩
   ·exact ef (Paired.mapP hgs fun _ _ r=>aV.kt (fun b xs q=>kt2 _ _ (ab.kt S02 _ _ q)) r) (aV.kt kt2 hs)
   ·show fj K J (T.dt J2) pv;rw[eT];exact fj.kt kt2 _ _ hpv
 ·rintro σ H3 ⟨qs,x4,x5,x6,x7,rfl,hb,zq,ex,hk⟩;rw[ai,ql,<-kl,aS]at hk;exact⟨_,rfl,k bl qs H3 hb hbl hk fun b o q=>ex _ _ (S02 _ _ q) (ae q hbl)⟩
def d9(H:Hp)(f w:Addr):Hp:=fun b=>if b=f∨b=w then none else H b
theorem o5{H:Hp}{f w b:Addr}(h1:b≠f)(h2:b≠w):d9 H f w b=H b:=if_neg (by rintro(z|z)<;>contradiction)
theorem vO{H:Hp}{f w b:Addr}{o:HO}(h:d9 H f w b=some o):b≠f/\b≠w/\H b=some o:=by
 unfold d9 at h;split at h
 ·cases h
 ·next c=>exact⟨fun z=>c (.inl z),fun z=>c (.inr z),h⟩
theorem lP{H:Hp}{f w:Addr}:ab (d9 H f w) H:=fun b o e=>(vO e).2.2
theorem Ce{H H':Hp}{f w:Addr}(S:ab H H'):ab (d9 H f w) (d9 H' f w):=fun b o e=>by
 obtain⟨h1,h2,h3⟩:=vO e;rw[o5 h1 h2];exact S _ _ h3
theorem Dz{H:Hp}{f w:Addr}{o:HO}:d9 (upd H f o) f w=d9 H f w:=funext fun b=>by
 unfold d9;split
 ·rfl
 ·next c=>exact ah fun z=>c (.inl z)
theorem vN{H:Hp}{f w:Addr}{o:HO}:d9 (upd H w o) f w=d9 H f w:=funext fun b=>by
 unfold d9;split
 ·rfl
 ·next c=>exact ah fun z=>c (.inr z)
theorem EnAts.same{K:Za}{J2:Zb}{J J':Hp}{qs:Ze}{L:List En}(S:ab J J')(h:Paired (mn K J2 J) qs L):Paired (mn K J2 J') qs L:=Paired.mapP h fun _ _ r=>r.same S
theorem zP{J2:Zb}:∀L:List En,L.length<=(L.flatMap (p9 J2)).length
 |[]=>ax _
 |e::r=>by
  rw[List.flatMap_cons,aE,fG];have:=EW J2 e;have:=zP (J2:=J2) r;omega
theorem qU{w:List Nat}{s:List Sg}(h:s.length<=w.length):∀{ps:List Tr}{sgs:List Sg}{i:Nat},∀e∈oY w s sgs i ps,e.story.length<=e.way.length
 |[],_,_,e,he=>by cases he
 |p::ps,sgs,i,e,he=>by
  rcases cy.1 he with rfl|he
  ·show(s++sgs.take 1).length<=(w++[i]).length;rw[aE,aE,aM];have:([i]:List Nat).length=1:=rfl;omega
  ·exact qU h e he
theorem AX{J2:Zb}{e:En}(h:e.story.length<=e.way.length):∀k∈qg J2 e,k.story.length<=k.way.length:=by
 obtain⟨w,s,t⟩:=e;cases t with
 |bl=>intro k hk;cases hk
 |en=>intro k hk;cases hk
 |nd a ps=>exact qU h
inductive i5(K:Za)(vs:List V)(H:Hp)(Q:VK)(E:XK):Prop
 |mk (v:V) (T:Tr) (J0 J2:Zb):(vs=[v])->(fj K H (T.dt J2) v)->(T.wf J0 J2)->(J2.length<=4)->((kY J2 [] [] T).length<=1000)->(∀e∈kY J2 [] [] T,e.way.length<8) ->
  (∀(l:Addr) (qs:Ze) (H':Hp),H' l=some (.lst (qs.map V.ref))->Paired (mn K J2 H') qs (kY J2 [] [] T)->(∀e∈kY J2 [] [] T,e.tr.wf J0 J2)->ab H H'->Q (.ref l) H')->i5 K vs H Q E
theorem y8{K:Za}{vs:List V}{H:Hp}{Q:VK}{E:XK}(h:i5 K vs H Q E):yH K (lE K) (be Q) (start zY vs) H:=by
 obtain⟨v,T,J0,J2,rfl,hv,wf,z4,zp,zw,k⟩:=h;refine⟨(by show 0<=aj;decide),fun fl hfl=>?_⟩;have S1:ab H (upd H fl (.lst [])):=ab.new hfl;have f1:upd H fl (.lst []) fl=some (.lst []):=aa;generalize upd H fl (.lst [])=H1 at S1 f1 ⊢;refine⟨(by show 0<=aj;decide),fun wr hwr=>?_⟩;have S2:ab H1 (upd H1 wr (.tup [])):=ab.new hwr;have w2:upd H1 wr (.tup []) wr=some (.tup (yE [])):=aa;generalize upd H1 wr (.tup [])=H2 at S2 w2 ⊢;refine⟨(by show 0<=aj;decide),fun st hst=>?_⟩;have S3:ab H2 (upd H2 st (.lst [])):=ab.new hst;have s3:upd H2 st (.lst []) st=some (.lst (([]:Ze).map V.ref)):=aa;generalize upd H2 st (.lst [])=H3 at S3 s3 ⊢;refine⟨_,rfl,(by show 3<=aj;decide),fun q0 hq0=>⟨(by show 1<=aj;decide),fun wl hwl=>?_⟩⟩;have S4:ab H3 (upd H3 q0 (.tup [.ref wr,.ref st,v])):=ab.new hq0;have q4:upd H3 q0 (.tup [.ref wr,.ref st,v]) q0=some (.tup [.ref wr,.ref st,v]):=aa
 change upd H3 q0 (.tup [.ref wr,.ref st,v]) wl=none at hwl
 have S5:ab (upd H3 q0 (.tup [.ref wr,.ref st,v])) (upd (upd H3 q0 (.tup [.ref wr,.ref st,v])) wl (.lst [.ref q0])):=ab.new hwl;have l5:upd (upd H3 q0 (.tup [.ref wr,.ref st,v])) wl (.lst [.ref q0]) wl=some (.lst (([q0]:Ze).map V.ref)):=aa;have nfs:st≠fl:=(ae (S2 _ _ f1) hst).symm;have nws:st≠wl:=ae (S4 _ _ s3) hwl;have nfw:fl≠wl:=ae (S4 _ _ (S3 _ _ (S2 _ _ f1))) hwl;have wl0:H wl=none:=(S1.trans (S2.trans (S3.trans S4))).free hwl;have f5:=S5 _ _ (S4 _ _ (S3 _ _ (S2 _ _ f1)));have s5:=S5 _ _ (S4 _ _ s3);have w5:=S5 _ _ (S4 _ _ (S3 _ _ w2));have q5:=S5 _ _ q4;have S05:ab H _:=S1.trans (S2.trans (S3.trans (S4.trans S5)));generalize upd (upd H3 q0 (.tup [.ref wr,.ref st,v])) wl (.lst [.ref q0])=H5 at S05 l5 f5 s5 w5 q5 ⊢;have ktJ:∀{G:Hp}{xs ys:List V},G fl=some (.lst xs)->G wl=some (.lst ys)->ik G (d9 G fl wl):=fun{G xs ys} e1 e2 b zs q=>by
  rw[o5 (fun z=>by rw[z,e1]at q;cases q) (fun z=>by rw[z,e2]at q;cases q)];exact q
 have kt5:=ktJ f5 l5;have er0:mn K J2 (d9 H5 fl wl) q0 ⟨[],[],T⟩:=⟨wr,st,v,kt5 _ _ q5,kt5 _ _ w5,⟨[],by rw[o5 nfs nws];exact s5,.nil⟩,fj.kt (fun b xs q=>kt5 _ _ (ab.kt S05 _ _ q)) _ _ hv⟩;refine⟨fun m σ G=>∃(fq wq:Ze) (F W:List En) (x3 x4 x5 x6:Option V),σ=[some v,some (.ref fl),some (.ref wl),x3,x4,x5,x6]/\G fl=some (.lst (fq.map V.ref))/\G wl=some (.lst (wq.map V.ref))/\Paired (mn K J2 (d9 G fl wl)) fq F/\Paired (mn K J2 (d9 G fl wl)) wq W/\F++W.reverse.flatMap (p9 J2)=kY J2 [] [] T/\m=(W.reverse.flatMap (p9 J2)).length/\(∀e∈W,e.tr.wf J0 J2/\e.story.length<=e.way.length)/\(∀e∈F,e.tr.wf J0 J2)/\ab H G,
  ⟨_,[],[q0],[],[⟨[],[],T⟩],_,_,_,_,rfl,f5,l5,.nil,.cons er0 .nil,by show _++List.flatMap _ [_]=_;rw[List.nil_append,List.flatMap_singleton];rfl,rfl,fun e he=>?_,fun e he=>(by cases he),S05⟩,?_⟩
 ·rw[cC.1 he];exact⟨wf,ax _⟩
 rintro m σ G ⟨fq,wq,F,W,x3,x4,x5,x6,rfl,gf,gw,hF,hW,eq,em,oW,oF,SG⟩;have lw:=Paired.length hW;have lf:=Paired.length hF;refine⟨_,rfl,.inl ⟨wl,_,rfl,.inl (az.of gw),_,_,rfl,rfl,_,rfl,?_⟩⟩;rw[ai];rcases List.eq_nil_or_concat W with e0|⟨W',e,e1⟩
 ·rw[e0]at lw;rw[zzr0 (by show ¬(0:Int)<(wq.length:Nat);rw[lw];decide)];refine bj ⟨_,rfl,?_⟩;rw[e0]at eq;have eq:F++[]=_:=eq;rw[dY]at eq;rw[eq]at hF oF;exact k fl fq G gf (EnAts.same lP hF) oF SG
 rw[List.concat_eq_append]at e1;subst e1;rw[zzr1 (by show(0:Int)<(wq.length:Nat);rw[lw,aE];show(0:Int)<((W'.length+1:Nat));omega)];refine bX ?_;obtain⟨q,hq,ea⟩:=Paired.get (i:=W'.length) (y:=e) hW (by rw[sW (ax _),Nat.sub_self];rfl);have zwq:wq.length=W'.length+1:=by rw[lw,aE];rfl
 have ewq:wq=wq.take W'.length++[q]:=by rw[<-take_snoc hq,<-zwq,aS]
 have hW':Paired (mn K J2 (d9 G fl wl)) (wq.take W'.length) W':=by
  have:=Paired.takeP W'.length hW;rw[List.take_left' rfl]at this;exact this
 generalize wq.take W'.length=wq' at ewq hW';subst ewq;obtain⟨oe,se⟩:=oW e (cZ _ (cC.2 rfl));obtain⟨wr1,st1,v1,a1,a2,a3,a4⟩:=id ea;have eflat:(W'++[e]).reverse.flatMap (p9 J2)=e::((qg J2 e)++W'.reverse).flatMap (p9 J2):=by
  rw[List.reverse_append];show List.flatMap _ (e::W'.reverse)=_;rw[List.flatMap_cons,vA,List.flatMap_append];rfl
 rw[eflat]at eq em;have eme:e∈kY J2 [] [] T:=by rw[<-eq];exact cZ _ dI
 have we:=zw e eme;have tot:F.length+1+((qg J2 e).length+W'.length)<=1000:=by
  have h1:(F++e::((qg J2 e)++W'.reverse).flatMap (p9 J2)).length<=1000:=by rw[eq];exact zp
  have h2:=zP (J2:=J2) ((qg J2 e)++W'.reverse);rw[aE,hE]at h2;rw[aE,fG]at h1;omega
 refine⟨fun σ' G'=>∃(fq wq:Ze) (F W:List En) (x3 x4 x5 x6:Option V),σ'=[some v,some (.ref fl),some (.ref wl),x3,x4,x5,x6]/\G' fl=some (.lst (fq.map V.ref))/\G' wl=some (.lst (wq.map V.ref))/\Paired (mn K J2 (d9 G' fl wl)) fq F/\Paired (mn K J2 (d9 G' fl wl)) wq W/\F++W.reverse.flatMap (p9 J2)=kY J2 [] [] T/\(W.reverse.flatMap (p9 J2)).length<m/\(∀e∈W,e.tr.wf J0 J2/\e.story.length<=e.way.length)/\(∀e∈F,e.tr.wf J0 J2)/\ab H G',?_,?_⟩
 ·rintro σ' G' ⟨fq,wq,F,W,x3,x4,x5,x6,rfl,b1,b2,b3,b4,b5,b6,b7,b8,b9⟩;exact⟨_,b6,fq,wq,F,W,x3,x4,x5,x6,rfl,b1,b2,b3,b4,b5,rfl,b7,b8,b9⟩
 refine⟨_,rfl,.inl ⟨rfl,_,az.of gw⟩,wl,_,.ref q,rfl,rfl,gw,?_,?_⟩
 ·rw[ar,aE,sW (by show _<=_+1-1;omega)];show[V.ref q][_+1-1-_]?=_;rw[Nat.add_sub_cancel,Nat.sub_self];rfl
 have edl:((wq'++[q]).map V.ref).dropLast=wq'.map V.ref:=by
  rw[ar];exact List.dropLast_concat
 rw[edl];have nlw:fl≠wl:=nfw;have gw1:upd G wl (.lst (wq'.map V.ref)) wl=some (.lst (wq'.map V.ref)):=aa;have gf1:upd G wl (.lst (wq'.map V.ref)) fl=some (.lst (fq.map V.ref)):=by rw[ah nfw];exact gf
 have J1:d9 (upd G wl (.lst (wq'.map V.ref))) fl wl=d9 G fl wl:=vN;have SG1:ab H (upd G wl (.lst (wq'.map V.ref))):=fun b o q=>by rw[ah (ae q wl0)];exact SG _ _ q
 generalize upd G wl (.lst (wq'.map V.ref))=G1 at gw1 gf1 J1 SG1 ⊢;rw[<-J1]at hF hW' ea a1 a2 a3 a4;have b1:=lP _ _ a1;refine⟨q,_,rfl,bE.of b1,rfl,_,_,rfl,_,_,rfl,_,_,rfl,rfl,?_⟩;refine⟨_,rfl,.inl ⟨rfl,_,az.of gf1⟩,_,rfl,_,rfl,_,rfl,(by show 3<=aj;decide),fun p hp=>?_⟩;have S2':ab G1 (upd G1 p (.tup [.ref wr1,.ref st1,v1])):=ab.new hp;have p2:upd G1 p (.tup [.ref wr1,.ref st1,v1]) p=some (.tup [.ref wr1,.ref st1,v1]):=aa;have npf:p≠fl:=(ae gf1 hp).symm;have npw:p≠wl:=(ae gw1 hp).symm;generalize upd G1 p (.tup [.ref wr1,.ref st1,v1])=G2 at S2' p2 ⊢;have gf2:=S2' _ _ gf1;have gw2:=S2' _ _ gw1;refine⟨fl,_,_,rfl,rfl,gf2,by rw[ai,lf];exact am (by omega),?_⟩;have gf3:upd G2 fl (.lst (fq.map V.ref++[.ref p])) fl=some (.lst ((fq++[p]).map V.ref)):=by rw[aa,ar];rfl
 have gw3:upd G2 fl (.lst (fq.map V.ref++[.ref p])) wl=some (.lst (wq'.map V.ref)):=by rw[ah nfw.symm];exact gw2
 have J3:d9 (upd G2 fl (.lst (fq.map V.ref++[.ref p]))) fl wl=d9 G2 fl wl:=Dz;have SG3:ab H (upd G2 fl (.lst (fq.map V.ref++[.ref p]))):=fun b o q=>by rw[ah (ae q hfl)];exact S2' _ _ (SG1 _ _ q)
 generalize upd G2 fl (.lst (fq.map V.ref++[.ref p]))=G3 at gf3 gw3 J3 SG3 ⊢;have SJ13:ab (d9 G1 fl wl) (d9 G3 fl wl):=by rw[J3];exact Ce S2'
 have ep:mn K J2 (d9 G3 fl wl) p e:=by
  have:=ea.same SJ13;obtain⟨gs1,h1,h2⟩:=a3;exact⟨wr1,st1,v1,by rw[J3,o5 npf npw];exact p2,SJ13 _ _ a2,⟨gs1,SJ13 _ _ h1,Paired.mapP h2 fun _ _ r=>aV.kt (ab.kt SJ13) r⟩,fj.kt (ab.kt SJ13) _ _ a4⟩
 have hF3:=EnAts.same SJ13 hF;have hW3:=EnAts.same SJ13 hW';have S3h:ab (d9 G1 fl wl) G3:=SJ13.trans lP;have a3':cV K G3 st1 e.story:=by
  obtain⟨gs1,h1,h2⟩:=a3;exact⟨gs1,S3h _ _ h1,Paired.mapP h2 fun _ _ r=>aV.kt (ab.kt S3h) r⟩
 refine⟨_,rfl,_,rfl,_,rfl,wr1,st1,v1,e,J2,rfl,S3h _ _ a2,a3',fj.kt (ab.kt S3h) _ _ a4,oe.ok,z4,by omega,by omega,fun l qs G4 hl hln hk SS4=>⟨l,_,rfl,az.of hl,?_⟩⟩;have gf4:=SS4 _ _ gf3;have gw4:=SS4 _ _ gw3;have nlf:l≠fl:=(ae gf3 hln).symm;have nlw:l≠wl:=(ae gw3 hln).symm;have hkids:=hk (d9 G4 fl wl) ⟨fun b o q n1 n2=>by rw[o5 (fun z=>by rw[z,gf3]at n1;cases n1) (fun z=>by rw[z,gw3]at n1;cases n1)];exact q,ktJ gf4 gw4⟩;have SJ34:ab (d9 G3 fl wl) (d9 G4 fl wl):=Ce SS4;have lq:=Paired.length hkids;have lw':=Paired.length hW';refine Ch (xs:=qs.map V.ref) (fun i σ' G'=>∃x6:Option V,σ'=[some v,some (.ref fl),some (.ref wl),some (.ref wr1),some (.ref st1),some v1,x6]/\G' wl=some (.lst ((wq'++qs.reverse.take i).map V.ref))/\(∀b o,G4 b=some o->b≠wl->G' b=some o)/\d9 G' fl wl=d9 G4 fl wl)
  ⟨_,rfl,by rw[sD,dY];exact gw4,fun _ _ q _=>q,rfl⟩ (fun i σ' G' _ ⟨_,_,_,ex,_⟩=>az.of (ex _ _ hl nlw)) ?_ ?_
 ·rintro i x σ' G' hx hi ⟨x6,rfl,gw',ex',J'⟩;rw[ai]at hx hi;obtain⟨y,hy,rfl⟩:=bQ hx;have hrev:qs.reverse[i]?=some y:=by rw[List.getElem?_reverse hi];exact hy
  refine⟨_,rfl,.inl ⟨rfl,_,az.of gw'⟩,_,rfl,wl,_,_,rfl,rfl,gw',?_,_,rfl,?_,fun b o q n=>?_,?_⟩
  ·rw[ai,aE,aM,hE];exact am (by omega)
  ·rw[aa,take_snoc hrev,<-eQ,ar (l₂:=[y])];rfl
  ·rw[ah n];exact ex' _ _ q n
  ·rw[vN];exact J'
 ·rintro σ' G' ⟨x6,rfl,gw',ex',J'⟩;rw[ai,<-hE,aS]at gw';have gf':=ex' _ _ gf4 nfw;have S4':ab (d9 G1 fl wl) (d9 G' fl wl):=by rw[J'];exact SJ13.trans SJ34
  have wr':=lP _ _ (S4' _ _ a2);have SG':ab H G':=fun b o q=>ex' _ _ (SS4 _ _ (SG3 _ _ q)) (ae q wl0);refine⟨_,rfl,.inl ⟨wr1,_,rfl,.inr (bE.of wr'),rfl,_,rfl,?_⟩⟩;have ew:(yE e.way).length=e.way.length:=ai _;rw[ew,zzr0 (by intro z;injection z with z;omega)];refine bj ⟨_,rfl,.inl ⟨fl,_,rfl,.inl (az.of gf'),_,rfl,.inl ⟨wl,_,rfl,.inl (az.of gw'),_,_,rfl,rfl,_,_,rfl,rfl,_,rfl,?_⟩⟩⟩;rw[ai,ai,aE,aE,hE];rw[zzr0 (by show ¬(1000:Int)<((fq.length+1:Nat):Int)+((wq'.length+qs.length:Nat):Int);omega)];refine bj ?_;have J'':ab (d9 G3 fl wl) (d9 G' fl wl):=by rw[J'];exact SJ34
  refine⟨fq++[p],wq'++qs.reverse,F++[e],W'++(qg J2 e).reverse,_,_,_,_,rfl,gf',gw',ef (EnAts.same J'' hF3) (ep.same J''),Paired.app (EnAts.same J'' hW3) (Paired.rev (by rw[J'];exact hkids)),?_,?_,fun x hx=>?_,fun x hx=>?_,SG'⟩
  ·rw[List.reverse_append,List.reverse_reverse,eQ];exact eq
  ·rw[List.reverse_append,List.reverse_reverse,em];exact Bw _
  ·rcases br.1 hx with hx|hx
   ·exact oW x (cL _ hx)
   ·exact⟨Hg oe x (List.mem_reverse.1 hx),AX se x (List.mem_reverse.1 hx)⟩
  ·rcases br.1 hx with hx|hx
   ·exact oF x hx
   ·rw[cC.1 hx];exact oe
theorem oG{K:Za}{H:Hp}:∀ws:List Str,DIns K H (ws.map eZ) (ws.map V.str)
 |[]=>rfl
 |w::ws=>⟨_,_,rfl,rfl,oG ws⟩
theorem jQ:∀ws:List Str,DT.depths (ws.map eZ)=0
 |[]=>rfl
 |w::ws=>by
  show max 0 (DT.depths (ws.map eZ))=0;rw[jQ ws];rfl
inductive jO(K:Za)(C:Addr)(vs:List V)(H:Hp)(Q:VK)(E:XK):Prop
 |mk (M:Addr) (v:V) (ps:List DT) (J0 J2 J4:Zb) (ds:List ak):(vs=[.ref M,v])->(bA C H M J0 J2 J4 ds)->(fj K H (.t (jc kg J2 ps)) v)->(J2.length=ps.length)->(∀H',ab H H'->Q (.bl true) H')->jO K C vs H Q E
theorem AG{K:Za}{C:Addr}{vs:List V}{H:Hp}{Q:VK}{E:XK}(h:jO K C vs H Q E):lX K C (lD C) (be Q) (start mh vs) H:=by
 obtain⟨M,v,ps,J0,J2,J4,ds,rfl,MA,⟨b,xs,rfl,ht,hx⟩,zl,k⟩:=h;have z4:=MA.ok.says4;have hp:=qr.of hx;have hl:=Paired.length hp;rw[List.length_zipWith]at hl;refine⟨_,rfl,b,rfl,⟨_,aV.sq ht⟩,fun l hl0=>?_⟩;refine pb (xs:=xs) (fun i us H'=>us=(J2.take i).map V.str/\ab H H'/\H' l=some (.lst us)) ⟨rfl,ab.new hl0,aa⟩ (fun i us H' _ ⟨_,S,h'⟩=>⟨h',aV.sq (aV.kt (ab.kt S) ht)⟩) ?_ ?_
 ·rintro us H1 ⟨rfl,S,h1⟩;have e1:xs.length=J2.length:=by omega
  rw[e1,aS]at h1;obtain⟨dm,fm,o1,o2,lv,lps,g1,a1,a2,_⟩:=m_ (MA.same S);refine⟨_,rfl,M,dm,fm,rfl,g1,a2,M,J0,J2,J4,ds,rfl,MA.same S,fun w hw=>?_⟩;have S2:ab H1 (upd H1 w (.lst (J2.map V.str))):=ab.new hw;refine⟨.s (J2.map eZ),.s (J2.map eZ),⟨l,_,rfl,az.of (S2 _ _ h1),oG J2⟩,⟨w,_,rfl,az.of aa,oG J2⟩,?_,?_,?_⟩
  ·show DT.depths _+1<=8;rw[jQ];decide
  ·show DT.depths _+1<=8;rw[jQ];decide
  ·rw[zzr1 rfl];exact k _ (S.trans S2)
 ·rintro i us H1 x hxi hi ⟨rfl,S,h1⟩;obtain⟨d,hd⟩:∃d,ps[i]?=some d:=⟨_,cN (by omega)⟩;obtain⟨w,hw⟩:∃w,J2[i]?=some w:=⟨_,cN (by omega)⟩;obtain⟨y,hy,hyx⟩:=Paired.getL hp hxi;rw[List.getElem?_zipWith,hw,hd]at hy;injection hy with hy;rw[<-hy]at hyx;obtain⟨c,us',rfl,hc,x1,us1,rfl,hx1,x2,us2,rfl,hx2,e3⟩:=hyx;have e3:us2=[]:=e3;subst e3;have hx1:x1=V.str w:=hx1;subst hx1;refine⟨c,_,rfl,aV.sq (aV.kt (ab.kt S) hc),rfl,_,_,rfl,_,_,rfl,rfl,pH ?_⟩;refine⟨_,rfl,h1,?_,ni hi ⟨by rw[take_snoc hw,ar];rfl,fun b o e=>?_,aa⟩⟩
  ·rw[ai,aM];exact am (by omega)
  ·rw[ah (ae e hl0)];exact S _ _ e
inductive r_(K:Za)(C:Addr)(vs:List V)(H:Hp)(Q:VK)(E:XK):Prop
 |mk (M:Addr) (v:V) (T:Tr) (J0 J2 J4:Zb) (ds:List ak):(vs=[.ref M,v])->(bA C H M J0 J2 J4 ds)->(fj K H (T.dt J2) v)->(T.wf J0 J2)->(∀H',ab H H'->Q (.bl true) H')->r_ K C vs H Q E
theorem GK{K:Za}{C bl en:Addr}(hb:∀H,bE K H bl (dF.map V.str))(he:∀H,bE K H en (fK.map V.str)){vs:List V}{H:Hp}{Q:VK}{E:XK}(h:r_ K C vs H Q E):nX K bl en (jN K 3 "wait") (jO K C) (jN K 4 "tell") C (oB C) (be Q) (start pe vs) H:=by
 obtain⟨M,v,T,J0,J2,J4,ds,rfl,MA,hv,wf,k⟩:=h;have z4:=MA.ok.says4;cases T with
 |bl =>
  refine⟨_,rfl,v,"blame",[],rfl,hv,_,rfl,?_⟩;refine bj ⟨_,rfl,v,"blame",[],rfl,hv,_,rfl,?_⟩;refine bj ⟨_,rfl,fB dF,fB fK,fj.dIn _ _ hv,bx (he H),by rw[bv];decide,by rw[bv];decide,_,rfl,?_⟩;rw[jZ,zzr0 (by decide)];refine bj ⟨_,rfl,fB dF,fB dF,fj.dIn _ _ hv,bx (hb H),by rw[bv];decide,by rw[bv];decide,?_⟩;rw[zzr1 rfl];exact k H (ab.refl _)
 |en =>
  refine⟨_,rfl,v,"end",[],rfl,hv,_,rfl,?_⟩;refine bj ⟨_,rfl,v,"end",[],rfl,hv,_,rfl,?_⟩;refine bj ⟨_,rfl,fB fK,fB fK,fj.dIn _ _ hv,bx (he H),by rw[bv];decide,by rw[bv];decide,_,rfl,?_⟩;rw[zzr1 rfl];exact bX (k H (ab.refl _))
 |nd a ps =>
  obtain⟨ok,ha,_⟩:=wf;have zd:(Tr.dts J2 ps).length=J2.length+1:=by rw[Tr.dts_map,ai,ok]
  have hv:fj K H (jd J2 a (Tr.dts J2 ps)) v:=hv;generalize Tr.dts J2 ps=dps at zd hv;cases a with
  |some a =>
   obtain⟨d0,ed0⟩:∃d,dps[0]?=some d:=⟨_,cN (by omega)⟩;rw[kH ed0]at hv;refine⟨_,rfl,v,"tell",_,rfl,hv,_,rfl,?_⟩;obtain⟨b,xs,rfl,ht,x0,us0,rfl,e0,x1,us1,rfl,e1,x2,us2,rfl,e2,x3,us3,rfl,e3,e4⟩:=hv;have e4:us3=[]:=e4;subst e4;have e1:x1=V.str a:=e1;subst e1;refine bX ?_;obtain⟨dm,fm,o1,o2,lv,lps,g1,a1,a2,_⟩:=m_ MA;refine⟨_,rfl,b,_,1,.str a,rfl,rfl,aV.sq ht,aX (j:=1) rfl,_,rfl,M,dm,fm,rfl,g1,a1,M,J0,J2,J4,ds,rfl,MA,fun w hw=>?_⟩;have S2:ab H (upd H w (.lst (J0.map V.str))):=ab.new hw;refine⟨eZ a,J0.map eZ,w,_,rfl,rfl,.inl (az.of aa),oG J0,cG _,by rw[jQ];decide,_,rfl,?_⟩;have ma:eZ a∈J0.map eZ:=kB (ha a rfl);have hc:(if false=true then !decide (eZ a∈J0.map eZ)else decide (eZ a∈J0.map eZ))=true:=zzr1 ma
   rw[hc];refine bX ⟨_,rfl,_,rfl,b,_,3,x3,rfl,rfl,aV.sq (aV.kt (ab.kt S2) ht),aX (j:=3) rfl,M,x3,dps.drop 1,J0,J2,J4,ds,rfl,MA.same S2,fj.kt (ab.kt S2) _ _ e3,by rw[fA];omega,fun H' S'=>k H' (S2.trans S')⟩
  |none =>
   obtain⟨d0,ed0⟩:∃d,dps[J2.length]?=some d:=⟨_,cN (by omega)⟩;rw[kI ed0]at hv;refine⟨_,rfl,v,"wait",_,rfl,hv,_,rfl,?_⟩;refine bj ⟨_,rfl,v,"wait",_,rfl,hv,_,rfl,?_⟩;obtain⟨b,xs,rfl,ht,x0,us0,rfl,e0,x1,us1,rfl,e1,x2,us2,rfl,e2,e4⟩:=hv;have e4:us2=[]:=e4;subst e4;exact bX ⟨_,rfl,_,rfl,b,_,1,x1,rfl,rfl,aV.sq ht,aX (j:=1) rfl,M,x1,dps.take J2.length,J0,J2,J4,ds,rfl,MA,e1,by rw[aM];omega,fun H' S'=>k H' S'⟩
inductive jP(K:Za)(C:Addr)(vs:List V)(H:Hp)(Q:VK)(E:XK):Prop
 |mk (M:Addr) (v:V) (T:Tr) (J0 J2 J4:Zb) (ds:List ak):(vs=[.ref M,v])->(bA C H M J0 J2 J4 ds)->(fj K H (T.dt J2) v)->(T.wf J0 J2)->((kY J2 [] [] T).length<=1000)->(∀e∈kY J2 [] [] T,e.way.length<8) ->
  (∀(l:Addr) (qs:Ze) (H':Hp),H' l=some (.lst (qs.map V.ref))->Paired (mn K J2 H') qs (kY J2 [] [] T)->ab H H'->Q (.ref l) H')->jP K C vs H Q E
theorem AH{K:Za}{C:Addr}{vs:List V}{H:Hp}{Q:VK}{E:XK}(h:jP K C vs H Q E):lY K (r_ K C) (i5 K) (be Q) (start mi vs) H:=by
 obtain⟨M,v,T,J0,J2,J4,ds,rfl,MA,hv,wf,zp,zw,k⟩:=h;have z4:=MA.ok.says4;refine⟨_,rfl,v,T,J0,J2,rfl,hv,wf,z4,zp,zw,fun l qs H1 hl hq hwf S1=>?_⟩;refine⟨_,rfl,l,rfl,⟨_,az.of hl⟩,?_⟩;refine cr (xs:=qs.map V.ref) (fun i σ H'=>∃x3 x4 x5:Option V,σ=[some (.ref M),some v,some (.ref l),x3,x4,x5]/\ab H1 H') ⟨_,_,_,rfl,ab.refl _⟩ (fun i σ H' _ ⟨_,_,_,_,S⟩=>az.of (S _ _ hl)) ?_ ?_
 ·rintro i x σ H2 hi ⟨x3,x4,x5,rfl,S2⟩;obtain⟨q,hq',rfl⟩:=bQ hi;obtain⟨e,he,hat⟩:=Paired.getL hq hq';obtain⟨wr,st,v1,a1,a2,a3,a4⟩:=hat.same S2;refine⟨q,_,rfl,bE.of a1,rfl,_,_,rfl,_,_,rfl,_,_,rfl,rfl,?_⟩;refine⟨_,rfl,_,rfl,M,v1,e.tr,J0,J2,J4,ds,rfl,MA.same (S1.trans S2),a4,hwf e (cc he),fun H3 S3=>⟨_,rfl,?_⟩⟩;exact bj ⟨_,_,_,rfl,S2.trans S3⟩
 ·rintro σ H2 ⟨x3,x4,x5,rfl,S2⟩;exact⟨_,rfl,k l qs H2 (S2 _ _ hl) (EnAts.same S2 hq) (S1.trans S2)⟩
inductive lF(K:Za)(C:Addr)(vs:List V)(H:Hp)(Q:VK)(E:XK):Prop
 |mk (M:Addr) (v:V) (T:Tr) (J0 J2 J4:Zb) (ds:List ak):(vs=[.ref M,v])->(bA C H M J0 J2 J4 ds)->(fj K H (T.dt J2) v)->(T.wf J0 J2)->((kY J2 [] [] T).length<=1000)->(∀e∈kY J2 [] [] T,e.way.length<8)->(∀H',ab H H'->Q .non H')->lF K C vs H Q E
theorem C4{K:Za}{C:Addr}{vs:List V}{H:Hp}{Q:VK}{E:XK}(h:lF K C vs H Q E):wU K (jP K C) (be Q) (start yh vs) H:=by
 obtain⟨M,v,T,J0,J2,J4,ds,rfl,MA,hv,wf,zp,zw,k⟩:=h;exact⟨_,rfl,_,rfl,M,v,T,J0,J2,J4,ds,rfl,MA,hv,wf,zp,zw,fun l qs H' _ _ S=>k H' S⟩
open Builtin.Int (intBits)
def gp(c:Option Str->Int):List (Option Str)->Option Str->Int->Option Int
 |[],_,_=>none
 |b::r,a,acc=>if b=a then some acc else gp c r a (acc+c b)
def dZ(c:Sg->Int)(f:Sg->Tr->Option Int):List (Sg×Tr)->Int->Option Int
 |[],acc=>some acc
 |x::r,acc=>match f x.1 x.2 with
  |none=>none
  |some own=>dZ c f r (acc * c x.1+own)
def numM(J0 J2 J4:Zb)(ds:List ak):Nat->List Str->Tr->Option Int
 |_,J8,.bl=>if J8=[]then some 0 else none
 |_,J8,.en=>if J8=[]then none else some 0
 |0,_,.nd _ _=>none
 |d+1,J8,.nd a ps=>if J8=[]then none else
  match gp (prodA J0 J2 J4 ds d J8) ((askedF J0 J4 ds J8).map some++[none]) a 1 with
  |none=>none
  |some s=>(dZ (fun sg=>cntM J0 J2 J4 ds d (behF J4 ds J8 sg)) (fun sg p=>numM J0 J2 J4 ds d (behF J4 ds J8 sg) p) ((au J2 a).zip ps) 0).map (s+·)
theorem k_{c:Option Str->Int}(hc:∀a,0<c a):∀{A:List (Option Str)}{a:Option Str}{acc s:Int},gp c A a acc=some s->acc<=s/\s+c a<=acc+(A.map c).sum
 |[],_,_,_,h=>by cases h
 |b::r,a,acc,s,h=>by
  have hs:∀r:List (Option Str),0<=(r.map c).sum:=fun r=>m7 _ fun x hx=>by
   obtain⟨y,_,rfl⟩:=aL.1 hx;exact mE (hc y)
  unfold gp at h;rw[bg,mG];split at h
  ·next e =>
   injection h with h;have:=hs r;rw[<-h,e];omega
  ·have:=k_ hc h;have:=hc b;omega
theorem vQ{α:Type}(c:α->Int)(l:List α):l.foldl (fun b x=>b * c x) 1=fg (l.map c):=by unfold fg;rw[List.foldl_map]
theorem sY{α β:Type}:∀{a:List α}{b:List β},a.length=b.length->(a.zip b).map (·.1)=a
 |[],_,_=>rfl
 |x::a,[],h=>by cases h
 |x::a,y::b,h=>by
  show x::(a.zip b).map (·.1)=_;rw[sY (Nat.succ.inj h)]
theorem jv(J0 J2 J4:Zb)(ds:List ak):∀(d:Nat) (J8:Zb) (T:Tr) (m:Int),numM J0 J2 J4 ds d J8 T=some m->T.wf J0 J2->0<=m/\m<cntM J0 J2 J4 ds d J8
 |d,J8,.bl,m,h,_=>by
  unfold numM at h;split at h
  ·injection h with h;have:=gH J0 J2 J4 ds d J8;omega
  ·cases h
 |d,J8,.en,m,h,_=>by
  unfold numM at h;split at h
  ·cases h
  ·injection h with h;have:=gH J0 J2 J4 ds d J8;omega
 |0,_,.nd _ _,m,h,_=>by
  unfold numM at h;cases h
 |d+1,J8,.nd a ps,m,h,w=>by
  obtain⟨w1,_,w3⟩:=w;have w3:=Tr.wfs_mem.1 w3;unfold numM at h;split at h
  ·cases h
  next ne =>
  split at h
  ·cases h
  next s es =>
  obtain⟨n,en,rfl⟩:=mF.1 h;have h1:=k_ (p8 J0 J2 J4 ds d J8) es;rw[xV ne];have key:∀{L:List (Sg×Tr)}{acc P r:Int},(∀x∈L,x.2.wf J0 J2)->0<=acc->acc<P->dZ (fun sg=>cntM J0 J2 J4 ds d (behF J4 ds J8 sg)) (fun sg p=>numM J0 J2 J4 ds d (behF J4 ds J8 sg) p) L acc=some r->0<=r/\r<(L.map (·.1)).foldl (fun b sg=>b * cntM J0 J2 J4 ds d (behF J4 ds J8 sg)) P:=by
   intro L
   induction L with
   |nil =>
    intro acc P r _ h0 h1 h;injection h with h;rw[<-h];exact⟨h0,h1⟩
   |cons x L ih =>
    intro acc P r hw h0 h1 h;unfold dZ at h;split at h
    ·cases h
    next own e =>
    obtain⟨o0,o1⟩:=jv J0 J2 J4 ds d _ _ _ e (hw x dI);rw[bg,List.foldl_cons];refine ih (acc:=acc * cntM J0 J2 J4 ds d (behF J4 ds J8 x.1)+own) (fun y hy=>hw y (dX _ hy)) ?_ ?_ h
    ·have:=Int.mul_nonneg h0 (show 0<=cntM J0 J2 J4 ds d (behF J4 ds J8 x.1) by omega);omega
    ·have h2:(acc+1) * cntM J0 J2 J4 ds d (behF J4 ds J8 x.1)<=P * cntM J0 J2 J4 ds d (behF J4 ds J8 x.1):=Int.mul_le_mul_of_nonneg_right (by omega) (by omega);rw[Int.add_mul,Int.one_mul]at h2;omega
  have h2:=key (fun x hx=>w3 x.2 (Bs hx).2) (mI 0) (show(0:Int)<1 by decide) en;rw[sY (a:=au J2 a) (b:=ps) (by rw[cf,w1]),vQ]at h2;have h3:prodA J0 J2 J4 ds d J8 a=fg ((au J2 a).map fun sg=>cntM J0 J2 J4 ds d (behF J4 ds J8 sg)):=rfl;omega
theorem DP{a b:Int}{n:Nat}(h0:0<=a)(h1:a<=b)(h:intBits b<=n):intBits a<=n:=by
 rw[intBits_le_iff]at h ⊢;omega
open Builtin.Int (intBits)
def Ff:Option Int->V
 |none=>.non
 |some i=>.int i
theorem uj:∀{l:List Tr}{t:Tr},t∈l->t.hgt<=Tr.hgts l
 |x::l,t,h=>by
  show t.hgt<=max x.hgt (Tr.hgts l);rcases cy.1 h with rfl|h
  ·omega
  ·have:=uj h;omega
theorem um(J2:Zb):∀(h:Nat) (T:Tr),T.hgt<=h->(T.dt J2).depth<=dB h
 |h,.bl,_=>by show(fB dF).depth<=_;rw[bv];exact Ba h
 |h,.en,_=>by show(fB fK).depth<=_;rw[bv];exact Ba h
 |0,.nd a ps,hh=>absurd hh (by show ¬Tr.hgts ps+1<=0;omega)
 |h+1,.nd a ps,hh=>by
  have hh:Tr.hgts ps+1<=h+1:=hh;show(jd J2 a (Tr.dts J2 ps)).depth<=dB h+3;refine yG (Ba h) fun p hp=>?_;rw[Tr.dts_map]at hp;obtain⟨t,ht,rfl⟩:=aL.1 hp;have:=uj ht;exact um J2 h t (by omega)
theorem Di{J0 J2:Zb}{a:Option Str}(h:∀w,a=some w->w∈J0):∀sg∈au J2 a,sg∈bD J0 J2:=by
 unfold bD;intro sg hs;cases a with
 |none =>
  rcases br.1 (show sg∈J2.map cu++[bF]from hs)with hs|hs
  ·exact cL _ (cZ _ hs)
  ·exact cZ _ hs
 |some w =>
  rcases cy.1 (show sg∈c8 w::J2.map cu from hs)with rfl|hs
  ·exact cL _ (cL _ (kB (h w rfl)))
  ·exact cL _ (cZ _ hs)
theorem Dj{J2:Zb}{a b:Option Str}(h:au J2 a=au J2 b):a=b:=by
 have hn:∀w:Str,au J2 none≠au J2 (some w):=fun w z=>by
  have z:J2.map cu++[bF]=c8 w::J2.map cu:=z;cases J2 with
  |nil =>
   injection z with z _;have z:([("hush":Str)]:Zb)=[("ask":Str),w]:=z;injection z with _ z;cases z
  |cons s r =>
   injection z with z _;have z:([("say":Str),s]:Zb)=[("ask":Str),w]:=z;injection z with z _;exact absurd z (by decide)
 cases a with
 |none=>cases b with
  |none=>rfl
  |some w=>exact absurd h (hn w)
 |some v=>cases b with
  |none=>exact absurd h.symm (hn v)
  |some w =>
   have h:c8 v::J2.map cu=c8 w::J2.map cu:=h;injection h with h _;have h:([("ask":Str),v]:Zb)=[("ask":Str),w]:=h;injection h with _ h;injection h with h _;rw[h]
theorem FC:∀{a b:List Sg},a.map fB=b.map fB->a=b
 |[],[],_=>rfl
 |[],_::_,h=>by cases h
 |_::_,[],h=>by cases h
 |x::a,y::b,h=>by
  injection h with h1 h2;rw[o7 h1,FC h2]
theorem Hl(a b:List Sg):decide (DT.s (a.map fB)=DT.s (b.map fB))=decide (a=b):=decide_eq_decide.2 ⟨fun z=>FC (by injection z),fun z=>by rw[z]⟩
theorem zM(L:List Sg):(DT.s (L.map fB)).depth<=14:=by
 show DT.depths _+1<=14;have:=A9 L;omega
inductive m9(K:Za)(Cm Ck Cd:Addr)(D:Nat)(vs:List V)(H:Hp)(Q:VK)(E:XK):Prop
 |mk (H0:Hp) (x sl y M kd cd:Addr) (us:Ze) (v tv:V) (T:Tr) (kv cv:List (TK×V)) (n d:Nat) (J8 J0 J2 J4:Zb) (ds:List ak):(vs=[.ref x,v,.int (d:Nat),tv])->(d<=D)->(ve Cm Ck Cd H0 x sl y M kd cd us J0 J2 J4 ds)->(cW H0 H kd cd kv cv J0 J2 J4 ds n)->(CD H v J8)->(v≠.non->J8≠[])->(∀r∈J8,r∈J4)->(J8.length<=1000)->(fj K H (T.dt J2) tv)->(T.wf J0 J2)->(T.hgt<=4)->(n+tBn d<=1000000) ->
  (∀(kv' cv':List (TK×V)) (H':Hp),cW H0 H' kd cd kv' cv' J0 J2 J4 ds (n+tBn d)->Kp H H'->Gr kv kv'->Q (Ff (numM J0 J2 J4 ds d J8 T)) H')->m9 K Cm Ck Cd D vs H Q E
inductive kO(K:Za)(Cm Ck Cd:Addr)(D:Nat)(vs:List V)(H:Hp)(Q:VK)(E:XK):Prop
 |mk (H0:Hp) (x sl y M kd cd u:Addr) (us:Ze) (tv:V) (a:Option Str) (ps:List Tr) (kv cv:List (TK×V)) (n d:Nat) (J8 J0 J2 J4:Zb) (ds:List ak):(vs=[.ref x,.ref u,.int ((d+1:Nat)),tv])->(d<=D)->(d<=4)->(ve Cm Ck Cd H0 x sl y M kd cd us J0 J2 J4 ds)->(cW H0 H kd cd kv cv J0 J2 J4 ds n)->(H u=some (.tup (J8.map V.str)))->(∀r∈J8,r∈J4)->(J8.length<=1000)->(fj K H ((Tr.nd a ps).dt J2) tv)->((Tr.nd a ps).wf J0 J2)->((Tr.nd a ps).hgt<=4)->(n+1+5 * (nB d+tBn d)<=1000000) ->
  (∀(kv' cv':List (TK×V)) (H':Hp),cW H0 H' kd cd kv' cv' J0 J2 J4 ds (n+1+5 * (nB d+tBn d))->Kp H H'->Gr kv kv'->Q (Ff (dZ (fun sg=>cntM J0 J2 J4 ds d (behF J4 ds J8 sg)) (fun sg p=>numM J0 J2 J4 ds d (behF J4 ds J8 sg) p) ((au J2 a).zip ps) 0)) H')->kO K Cm Ck Cd D vs H Q E
theorem ED{K:Za}{Cm Ck Cd:Addr}{D:Nat}{vs:List V}{H:Hp}{Q:VK}{E:XK}(h:kO K Cm Ck Cd D vs H Q E):km K (iq K) Cd (fM Cm Ck Cd 4) (m9 K Cm Ck Cd D) (gg Cm Ck Cd) (be Q) (start kq vs) H:=by
 obtain⟨H0,x,sl,y,M,kd,cd,u,us,tv,a,ps,kv,cv,n,d,J8,J0,J2,J4,ds,rfl,hD,d4,St,Dy,hu,hsub,hz,htv,wf,hg,hn,k⟩:=h;obtain⟨dx,fs,g0,l1,l2,l3,l4⟩:=St.ob;have mo:=St.ks.mach.ok;have z1:=mo.asks4;have z2:=mo.says4;have z3:=mo.rooms26;obtain⟨w1,w2,w3⟩:=id wf;have w3:=Tr.wfs_mem.1 w3;have hg':Tr.hgts ps+1<=4:=hg;refine⟨_,rfl,x,dx,fs,rfl,Dy.ks.same _ _ g0,l4 "steps_from" (by decide +kernel) (by decide +kernel) (by decide +kernel),_,rfl,H0,x,sl,y,M,kd,cd,u,us,kv,cv,n,J8,J0,J2,J4,ds,rfl,St,Dy,hu,hsub,hz,by omega,fun sd kv1 kvs H1 D1 v1 _ _ ex1 gr1=>?_⟩;have kp1:Kp H H1:=Kp.exB Dy.ks.hkd rfl ex1;refine⟨_,rfl,tv,.nd a ps,J2,rfl,fj.kt kp1.kt _ _ htv,w1,z2,fun ql qs H2 hql hqs S2=>⟨ql,rfl,⟨_,az.of hql⟩,?_⟩⟩;have hqs:ki K H2 qs ((au J2 a).zip (Tr.dts J2 ps)):=hqs;have D2:=D1.up S2;have kp2:=kp1.trans (ab.kp S2);have zz:(au J2 a).length=ps.length:=by rw[cf,w1]
 have zL:((au J2 a).zip ps).length=ps.length:=by rw[kA];omega
 have zq:qs.length=ps.length:=by rw[Paired.length hqs,kA,Tr.dts_map,ai];omega
 generalize hL:(au J2 a).zip ps=L at k zL;refine cr (xs:=qs.map V.ref) (fun i σ H'=>∃(kv' cv':List (TK×V)) (acc:Int) (x6 x7 x8:Option V),σ=[some (.ref x),some (.ref u),some (.int ((d+1:Nat))),some tv,some (.ref sd),some (.int acc),x6,x7,x8]/\dZ (fun sg=>cntM J0 J2 J4 ds d (behF J4 ds J8 sg)) (fun sg p=>numM J0 J2 J4 ds d (behF J4 ds J8 sg) p) L 0=dZ (fun sg=>cntM J0 J2 J4 ds d (behF J4 ds J8 sg)) (fun sg p=>numM J0 J2 J4 ds d (behF J4 ds J8 sg) p) (L.drop i) acc/\intBits acc<=i * (bB d+1)/\Kp H2 H'/\cW H0 H' kd cd kv' cv' J0 J2 J4 ds (n+1+i * (nB d+tBn d))/\Gr kv1 kv')
  ⟨kv1,cv,0,_,_,_,rfl,rfl,(by rw[Nat.zero_mul];decide),fun _ _ e _=>e,D2.more (by omega),.refl _⟩ (fun i σ H' _ ⟨_,_,_,_,_,_,_,_,_,kp',_⟩=>az.of (kp' _ _ hql rfl)) ?_ ?_
 ·rintro i w σ H3 hw ⟨kv3,cv3,acc,x6,x7,x8,rfl,eh,ba,kp3,D3,gr3⟩;obtain⟨q,hq,rfl⟩:=bQ hw;have il:i<ps.length:=by rw[<-zq];exact(bY.1 hq).1
  obtain⟨p,hp⟩:∃p,ps[i]?=some p:=⟨_,cN il⟩;obtain⟨sg,hsg⟩:∃sg,(au J2 a)[i]?=some sg:=⟨_,cN (by omega)⟩;have hLi:L[i]?=some (sg,p):=by rw[<-hL];exact List.getElem?_zip_eq_some.2 ⟨hsg,hp⟩
  have ed:L.drop i=(sg,p)::L.drop (i+1):=by
   obtain⟨h1,h2⟩:=bY.1 hLi;rw[pi h1,h2]
  rw[ed]at eh;obtain⟨y',hy',s,pv,e1,e2,e3⟩:=Paired.getL hqs hq;have hz':((au J2 a).zip (Tr.dts J2 ps))[i]?=some (sg,p.dt J2):=List.getElem?_zip_eq_some.2 ⟨hsg,by rw[Tr.dts_map,de,hp];rfl⟩;rw[hz']at hy';injection hy' with hy';rw[<-hy']at e2 e3;have hat3:aV K H3 s (sg.map V.str):=aV.kt kp3.kt e2;have htp:fj K H3 (p.dt J2) pv:=fj.kt kp3.kt _ _ e3;have hsi:=Di w2 sg (cc hsg);have wp:=w3 p (cc hp);have hgp:p.hgt<=4:=by have:=uj (cc hp);omega
  have mul:(i+1) * (nB d+tBn d)=i * (nB d+tBn d)+(nB d+tBn d):=g8 _ _;have mul5:(i+1) * (nB d+tBn d)<=5 * (nB d+tBn d):=dW _ (by omega);have edd:(((d+1:Nat):Int)-1)=(d:Nat):=by omega
  refine⟨q,_,rfl,bE.of (kp3 _ _ e1 rfl),rfl,_,_,rfl,_,_,rfl,rfl,?_⟩;obtain⟨f',sd',kvs3,e',_,_,r3,st3⟩:=D3.ks.kok _ (eg (gr3 _ _ v1));injection e' with e1' e2';cases eN e1';cases e2';have gd:ky K H3 sd (.ref s) (a_ kvs3 (e_ sg)):=.inr ⟨_,e_ sg,s,r3,rfl,nW hat3,dk _,rfl⟩;refine⟨_,rfl,x,dx,fs,rfl,D3.ks.same _ _ g0,l4 "number_at" (by decide +kernel) (by decide +kernel) (by decide +kernel),_,rfl,sd,rfl,.inr ⟨_,r3⟩,_,rfl,_,gd,_,rfl,_,_,rfl,rfl,_,rfl,H0,x,sl,y,M,kd,cd,us,(a_ kvs3 (e_ sg)).getD .non,pv,p,kv3,cv3,_,d,behF J4 ds J8 sg,J0,J2,J4,ds,?_,hD,St,D3,?_,?_,k9 hsub,jE (by omega) hz,htp,wp,hgp,by omega,fun kv4 cv4 H4 D4 kp4 gr4=>?_⟩
  ·show[V.ref x,_,V.int (((d+1:Nat):Int)-1),_]=_;rw[edd]
  ·rcases st3.look hsi with⟨e1,e2⟩|⟨e1,u2,e2,e3⟩
   ·rw[e1,e2];exact .inl ⟨rfl,rfl⟩
   ·rw[e2];exact .inr ⟨u2,rfl,e3⟩
  ·rcases st3.look hsi with⟨e1,e2⟩|⟨e1,u2,e2,e3⟩
   ·rw[e2];exact fun z=>absurd rfl z
   ·exact fun _=>e1
  have kp34:=kp3.trans kp4;refine⟨_,rfl,_,rfl,?_⟩;cases en:numM J0 J2 J4 ds d (behF J4 ds J8 sg) p with
  |none =>
   have er:dZ (fun sg=>cntM J0 J2 J4 ds d (behF J4 ds J8 sg)) (fun sg p=>numM J0 J2 J4 ds d (behF J4 ds J8 sg) p) ((sg,p)::L.drop (i+1)) acc=none:=by
    rw[dZ];show(match numM J0 J2 J4 ds d (behF J4 ds J8 sg) p with|none=>none|some own=>_)=none
    rw[en]
   refine bX ?_;have:=k kv4 cv4 H4 (D4.more (by omega)) (kp2.trans kp34) (gr1.trans (gr3.trans gr4));rw[eh,er]at this;exact this
  |some own =>
   have er:dZ (fun sg=>cntM J0 J2 J4 ds d (behF J4 ds J8 sg)) (fun sg p=>numM J0 J2 J4 ds d (behF J4 ds J8 sg) p) ((sg,p)::L.drop (i+1)) acc=dZ (fun sg=>cntM J0 J2 J4 ds d (behF J4 ds J8 sg)) (fun sg p=>numM J0 J2 J4 ds d (behF J4 ds J8 sg) p) (L.drop (i+1)) (acc * cntM J0 J2 J4 ds d (behF J4 ds J8 sg)+own):=by
    rw[dZ];show(match numM J0 J2 J4 ds d (behF J4 ds J8 sg) p with|none=>none|some own=>_)=_
    rw[en]
   obtain⟨o0,o1⟩:=jv J0 J2 J4 ds d _ p own en wp;have bc:=k7 (J0:=J0) (J2:=J2) (J4:=J4) (ds:=ds) z1 z2 d (behF J4 ds J8 sg);have bo:=DP o0 (mE o1) bc;have b4:=Ct d d4;refine bj ?_;obtain⟨f',sd',kvs5,e',_,_,r5,st5⟩:=D4.ks.kok _ (eg ((gr3.trans gr4) _ _ v1));injection e' with e1' e2';cases eN e1';cases e2';have gd5:ky K H4 sd (.ref s) (a_ kvs5 (e_ sg)):=.inr ⟨_,e_ sg,s,r5,rfl,nW (aV.kt kp4.kt hat3),dk _,rfl⟩;refine⟨_,rfl,_,rfl,x,dx,fs,rfl,D4.ks.same _ _ g0,l4 "count_at" (by decide +kernel) (by decide +kernel) (by decide +kernel),_,rfl,sd,rfl,.inr ⟨_,r5⟩,_,rfl,_,gd5,_,rfl,_,_,rfl,rfl,H0,x,sl,y,M,kd,cd,us,(a_ kvs5 (e_ sg)).getD .non,kv4,cv4,_,d,behF J4 ds J8 sg,J0,J2,J4,ds,?_,d4,St,D4,?_,?_,k9 hsub,jE (by omega) hz,by omega,fun kv6 cv6 H6 D6 kp6 gr6=>?_⟩
   ·show[V.ref x,_,V.int (((d+1:Nat):Int)-1)]=_;rw[edd]
   ·rcases st5.look hsi with⟨e1,e2⟩|⟨e1,u2,e2,e3⟩
    ·rw[e1,e2];exact .inl ⟨rfl,rfl⟩
    ·rw[e2];exact .inr ⟨u2,rfl,e3⟩
   ·rcases st5.look hsi with⟨e1,e2⟩|⟨e1,u2,e2,e3⟩
    ·rw[e2];exact fun z=>absurd rfl z
    ·exact fun _=>e1
   have i4:i<=4:=by omega
   have bi:i * (bB d+1)<=4 * (bB d+1):=dW _ i4;refine⟨_,_,rfl,rfl,IntMulOk.of_le ba bc (by omega),_,rfl,_,_,rfl,rfl,kv6,cv6,_,_,_,_,rfl,by rw[eh,er],?_,kp34.trans kp6,D6.more (by omega),gr3.trans (gr4.trans gr6)⟩;have h1:=wd (intBits_mul_le ba bc) bo;rw[g8];omega
 ·rintro σ H3 ⟨kv3,cv3,acc,x6,x7,x8,rfl,eh,ba,kp3,D3,gr3⟩;rw[ai,zq,<-zL,sG]at eh;rw[ai,zq]at D3;have m5:ps.length * (nB d+tBn d)<=5 * (nB d+tBn d):=dW _ (by omega);have:=k kv3 cv3 H3 (D3.more (by omega)) (kp2.trans kp3) (gr1.trans gr3);rw[eh]at this;exact⟨_,rfl,this⟩
open Classical in
def aheadB(J2:Zb)(c:Option Str->Int)(sgs:List Sg):List (Option Str)->Int->Option Int
 |[],_=>none
 |b::r,acc=>if au J2 b=sgs then some acc else aheadB J2 c sgs r (acc+c b)
theorem zW{J2:Zb}{c:Option Str->Int}{a:Option Str}:∀(A:List (Option Str)) (acc:Int),aheadB J2 c (au J2 a) A acc=gp c A a acc
 |[],_=>rfl
 |b::r,acc=>by
  unfold aheadB gp;by_cases h:b=a
  ·rw[if_pos (by rw[h]),if_pos h]
  ·rw[if_neg (fun z=>h (Dj z)),if_neg h,zW r]
theorem uC{J2:Zb}{c:Option Str->Int}:∀(A:List (Option Str)) (acc:Int),aheadB J2 c [] A acc=none
 |[],_=>rfl
 |b::r,acc=>by
  unfold aheadB;rw[if_neg (fun z=>by have:=cf J2 b;rw[z]at this;cases this),uC r]
def xv(J2:Zb):Tr->List Sg
 |.nd a _=>au J2 a
 |_=>[]
theorem GA{J2:Zb}{T:Tr}(h:T.ok J2):(HJ J2 T).map (·.1)=xv J2 T:=by
 cases T with
 |bl=>rfl
 |en=>rfl
 |nd a ps =>
  have h:ps.length=J2.length+1:=h;exact sY (by rw[cf,Tr.dts_map,ai,h])
def hornT(J0 J2 J4:Zb)(ds:List ak)(d:Nat)(J8:Zb):Tr->Option Int
 |.nd a ps=>dZ (fun sg=>cntM J0 J2 J4 ds d (behF J4 ds J8 sg)) (fun sg p=>numM J0 J2 J4 ds d (behF J4 ds J8 sg) p) ((au J2 a).zip ps) 0
 |_=>none
theorem Fe{J0 J2 J4 J8:Zb}{ds:List ak}{d:Nat}{T:Tr}(hne:J8≠[])(hT:T≠.en):numM J0 J2 J4 ds (d+1) J8 T=match aheadB J2 (prodA J0 J2 J4 ds d J8) (xv J2 T) ((askedF J0 J4 ds J8).map some++[none]) 1 with
  |none=>none
  |some s=>(hornT J0 J2 J4 ds d J8 T).map (s+·):=by
 cases T with
 |bl =>
  show numM J0 J2 J4 ds (d+1) J8 .bl=match aheadB J2 _ [] _ 1 with|none=>none|some s=>_
  rw[uC];unfold numM;rw[if_neg hne]
 |en=>exact absurd rfl hT
 |nd a ps =>
  show numM J0 J2 J4 ds (d+1) J8 (.nd a ps)=match aheadB J2 _ (au J2 a) _ 1 with|none=>none|some s=>_
  rw[zW];unfold numM;rw[if_neg hne];rfl
theorem FJ{J2:Zb}{T:Tr}(h:T.dt J2=fB dF):T=.bl:=by
 cases T with
 |bl=>rfl
 |en=>exact absurd (o7 h) (by decide)
 |nd a ps =>
  cases a with
  |none=>injection h with h;cases h
  |some w=>injection h with h;cases h
theorem FI{J2:Zb}{T:Tr}(h:T.dt J2=fB fK):T=.en:=by
 cases T with
 |bl=>exact absurd (o7 h) (by decide)
 |en=>rfl
 |nd a ps =>
  cases a with
  |none=>injection h with h;cases h
  |some w=>injection h with h;cases h
theorem Hb{J0 J2 J4:Zb}{ds:List ak}{d:Nat}{T:Tr}(h:T≠.bl):numM J0 J2 J4 ds d [] T=none:=by
 cases T with
 |bl=>exact absurd rfl h
 |en=>unfold numM;rw[if_pos rfl]
 |nd a ps=>cases d with
  |zero=>unfold numM;rfl
  |succ d=>unfold numM;rw[if_pos rfl]
theorem Fd{J0 J2 J4 J8:Zb}{ds:List ak}{T:Tr}(hne:J8≠[])(h:T≠.en):numM J0 J2 J4 ds 0 J8 T=none:=by
 cases T with
 |bl=>unfold numM;rw[if_neg hne]
 |en=>exact absurd rfl h
 |nd a ps=>unfold numM;rfl
theorem Il{K:Za}{Cm Ck Cd bl en:Addr}(hb:∀H,bE K H bl (dF.map V.str))(he:∀H,bE K H en (fK.map V.str)){D:Nat}{spN:Sp}(d5:D<=4)(hN:∀m,D=m+1->spN=kO K Cm Ck Cd m){vs:List V}{H:Hp}{Q:VK}{E:XK}(h:m9 K Cm Ck Cd D vs H Q E):pR K Cd (ir K Cm Ck Cd) (gR K Cm Ck Cd 4) (iq K) spN en bl (be Q) (start qA vs) H:=by
 obtain⟨H0,x,sl,y,M,kd,cd,us,v,tv,T,kv,cv,n,d,J8,J0,J2,J4,ds,rfl,hD,St,Dy,hv,hne,hsub,hz,htv,wf,hg,hn,k⟩:=h;obtain⟨dx,fs,g0,l1,l2,l3,l4⟩:=St.ob;have mo:=St.ks.mach.ok;have z1:=mo.asks4;have z2:=mo.says4;have dpT:(T.dt J2).depth<=14:=aG (um J2 4 T hg) (by decide);have fin:∀(r:Option Int),numM J0 J2 J4 ds d J8 T=r->Q (Ff r) H:=fun r e=>by
  have:=k kv cv H (Dy.more (by omega)) (fun _ _ e _=>e) (.refl _);rw[e]at this;exact this
 refine⟨_,rfl,_,rfl,?_⟩;rcases hv with⟨rfl,rfl⟩|⟨u,rfl,hu⟩
 ·refine bX ?_;refine⟨_,rfl,T.dt J2,fB dF,fj.dIn _ _ htv,bx (hb H),dpT,by rw[bv];decide,_,rfl,?_⟩;by_cases c:T=.bl
  ·rw[zzr1 (by rw[c];rfl)];refine bX (fin (some 0) ?_);rw[c];unfold numM;rw[if_pos rfl]
  ·rw[zzr0 (fun z=>c (FJ z))];exact bj (fin none (Hb c))
 have hne:=hne (by intro z;cases z);refine bj ?_;refine⟨_,rfl,T.dt J2,fB fK,fj.dIn _ _ htv,bx (he H),dpT,by rw[bv];decide,_,rfl,?_⟩;by_cases ce:T=.en
 ·rw[zzr1 (by rw[ce];rfl)];refine bX (fin (some 0) ?_);rw[ce];unfold numM;rw[if_neg hne]
 rw[zzr0 (fun z=>ce (FI z))];refine bj ?_;refine⟨_,rfl,rfl,_,rfl,?_⟩
 match d,hD,hn,k,fin with
 |0,_,_,_,fin =>
  refine bX (fin none (Fd hne ce))
 |d+1,hD,hn,k,fin =>
 rw[zzr0 (by intro z;injection z with z;omega)];refine bj ?_;obtain⟨m,rfl⟩:∃m,D=m+1:=⟨D-1,by omega⟩;cases hN m rfl;have nb:tBn (d+1)=13+60 * nB d+5 * tBn d:=rfl;refine⟨_,rfl,x,dx,fs,rfl,Dy.ks.same _ _ g0,l4 "kinds_at" (by decide +kernel) (by decide +kernel) (by decide +kernel),_,rfl,H0,x,sl,y,M,kd,cd,u,us,kv,cv,n,J8,J0,J2,J4,ds,rfl,St,Dy,hu,hsub,hz,by omega,fun l ks kv1 H1 hl hK D1 kp1 gr1=>⟨l,rfl,⟨_,az.of hl⟩,?_⟩⟩;have u1:=kp1 _ _ hu rfl;rw[Fe hne ce]at k;rw[gV]at hK;generalize hA:((askedF J0 J4 ds J8).map some++[none]:List (Option Str))=A at hK k;have zA:A.length<=5:=by
  rw[<-hA,aE,ai];have:(askedF J0 J4 ds J8).length<=4:=aG (cM _ _) z1;show _+1<=5;omega
 have zks:ks.length=A.length:=by rw[Paired.length hK,ai]
 have memA:∀a∈A,∀sg∈au J2 a,sg∈bD J0 J2:=fun a ha=>v8 (J4:=J4) (ds:=ds) (J8:=J8) (by rw[hA];exact ha);refine cr (xs:=ks.map V.ref) (fun i σ H'=>∃(kv' cv':List (TK×V)) (acc:Int) (x5 x6:Option V),σ=[some (.ref x),some (.ref u),some (.int ((d+1:Nat))),some tv,some (.int acc),x5,x6]/\aheadB J2 (prodA J0 J2 J4 ds d J8) (xv J2 T) A 1=aheadB J2 (prodA J0 J2 J4 ds d J8) (xv J2 T) (A.drop i) acc/\Kp H1 H'/\cW H0 H' kd cd kv' cv' J0 J2 J4 ds (n+1+i * (1+5 * nB d))/\Gr kv1 kv')
  ⟨kv1,cv,1,_,_,rfl,rfl,fun _ _ e _=>e,D1.more (by omega),.refl _⟩ (fun i σ H' _ ⟨_,_,_,_,_,_,_,kp',_⟩=>az.of (kp' _ _ hl rfl)) ?_ ?_
 ·rintro i w σ H2 hw ⟨kv2,cv2,acc,x5,x6,rfl,ea,kp2,D2,gr2⟩;obtain⟨q,hq,rfl⟩:=bQ hw;have il:i<A.length:=by rw[<-zks];exact(bY.1 hq).1
  obtain⟨b,hb'⟩:∃b,A[i]?=some b:=⟨_,cN il⟩;obtain⟨kd',hkd',hat⟩:=Paired.getL hK hq;rw[de,hb']at hkd';injection hkd' with hkd';subst hkd';have ed:A.drop i=b::A.drop (i+1):=by
   obtain⟨h1,h2⟩:=bY.1 hb';rw[pi h1,h2]
  rw[ed]at ea;have mul:(i+1) * (1+5 * nB d)=i * (1+5 * nB d)+(1+5 * nB d):=g8 _ _;have mul5:(i+1) * (1+5 * nB d)<=5 * (1+5 * nB d):=dW _ (by omega);have htv2:fj K H2 (T.dt J2) tv:=fj.kt (kp1.trans kp2).kt _ _ htv;obtain⟨gs,hqg,hgs⟩:=hat.kp kp2;refine⟨_,rfl,_,rfl,tv,T,J2,rfl,htv2,wf.ok,z2,fun ql qs H3 hql hqs S3=>⟨ql,rfl,⟨_,az.of hql⟩,fun cl hcl=>?_⟩⟩;have zsg:=Paired.length hqs;have z5:(HJ J2 T).length<=5:=by
   have:=wf.ok;generalize T=T' at this;cases T' with
   |bl=>exact cG _
   |en=>exact cG _
   |nd a ps=>show((au J2 a).zip _).length<=5;rw[kA,cf];omega
  refine cx (xs:=qs.map V.ref) (fun j vs H'=>∃ss:List Addr,vs=ss.map V.ref/\ab H3 H'/\H' cl=some (.lst vs)/\Cz K H' ss (((HJ J2 T).take j).map (·.1))) ⟨[],rfl,ab.new hcl,aa,.nil⟩ (fun j vs H' _ ⟨_,_,S,h',_⟩=>⟨h',az.of (S _ _ hql)⟩) ?_ ?_;rotate_left
  ·rintro j vs H4 w hw hj ⟨ss,rfl,S4,h4,hss⟩;obtain⟨q',hq',rfl⟩:=bQ hw;obtain⟨p',hp',s,pv,e1,e2,e3⟩:=Paired.getL hqs hq';refine⟨q',_,rfl,bE.of (S4 _ _ e1),rfl,_,_,rfl,_,_,rfl,rfl,pH ?_⟩;have kt:ik H4 (upd H4 cl (.lst (ss.map V.ref++[.ref s]))):=eU h4;refine⟨_,rfl,h4,?_,ni hj ⟨ss++[s],by rw[ar];rfl,fun b o e=>?_,aa,?_⟩⟩
   ·rw[ai,Paired.length hss,ai,aM];exact am (by omega)
   ·rw[ah (ae e hcl)];exact S4 _ _ e
   ·rw[take_snoc hp',ar];exact ef (hss.kt kt) (aV.kt (fun b xs e=>kt _ _ (ab.kt S4 _ _ e)) e2)
  ·rintro vs H4 ⟨ss,rfl,S4,h4,hss⟩;rw[ai,zsg,aS,GA wf.ok]at hss;have S24:=S3.trans S4;have D4:=D2.up S24;have kp24:Kp H2 H4:=ab.kp S24;have kp14:=kp2.trans kp24;refine⟨.s ((au J2 b).map fB),.s ((xv J2 T).map fB),⟨q,_,rfl,az.of (S24 _ _ hqg),pK (Paired.mapP hgs fun _ _ r=>aV.kt kp24.kt r)⟩,⟨cl,_,rfl,az.of h4,pK hss⟩,zM _,zM _,_,rfl,?_⟩;rw[Hl];by_cases cb:au J2 b=xv J2 T
   ·rw[zzr1 cb];refine bX ?_;have ea':aheadB J2 (prodA J0 J2 J4 ds d J8) (xv J2 T) A 1=some acc:=by
     rw[ea];unfold aheadB;rw[if_pos cb]
    rw[ea']at k;cases T with
    |bl=>have:=cf J2 b;rw[cb]at this;cases this
    |en=>exact absurd rfl ce
    |nd a ps =>
     refine⟨_,rfl,x,dx,fs,rfl,D4.ks.same _ _ g0,l4 "number_of_kind" (by decide +kernel) (by decide +kernel) (by decide +kernel),_,rfl,_,rfl,_,rfl,H0,x,sl,y,M,kd,cd,u,us,tv,a,ps,kv2,cv2,_,d,J8,J0,J2,J4,ds,rfl,by omega,by omega,St,D4,kp14 _ _ u1 rfl,hsub,hz,fj.kt kp24.kt _ _ htv2,wf,hg,by omega,fun kv5 cv5 H5 D5 kp5 gr5=>?_⟩;have kk:=k kv5 cv5 H5 (D5.more (by omega)) ((kp1.trans kp14).trans kp5) (gr1.trans (gr2.trans gr5));have kk:Q (Ff ((dZ (fun sg=>cntM J0 J2 J4 ds d (behF J4 ds J8 sg)) (fun sg p=>numM J0 J2 J4 ds d (behF J4 ds J8 sg) p) ((au J2 a).zip ps) 0).map (acc+·))) H5:=kk;refine⟨_,rfl,_,rfl,?_⟩;cases eh:dZ (fun sg=>cntM J0 J2 J4 ds d (behF J4 ds J8 sg)) (fun sg p=>numM J0 J2 J4 ds d (behF J4 ds J8 sg) p) ((au J2 a).zip ps) 0 with
     |none=>rw[eh]at kk;exact bX kk
     |some r=>rw[eh]at kk;exact bj ⟨_,rfl,_,rfl,_,_,rfl,rfl,kk⟩
   ·rw[zzr0 cb];refine bj ?_;have ea':aheadB J2 (prodA J0 J2 J4 ds d J8) (xv J2 T) A 1=aheadB J2 (prodA J0 J2 J4 ds d J8) (xv J2 T) (A.drop (i+1)) (acc+prodA J0 J2 J4 ds d J8 b):=by
     rw[ea];conv=>lhs;unfold aheadB
     rw[if_neg cb]
    refine⟨_,rfl,_,rfl,x,dx,fs,rfl,D4.ks.same _ _ g0,l4 "count_of" (by decide +kernel) (by decide +kernel) (by decide +kernel),_,rfl,_,rfl,_,rfl,H0,x,sl,y,M,kd,cd,u,q,us,kv2,cv2,_,d,au J2 b,J8,J0,J2,J4,ds,rfl,by omega,by omega,St,D4,kp14 _ _ u1 rfl,hsub,hz,hat.kp kp14,memA b (cc hb'),by rw[cf];omega,by omega,fun kv5 cv5 H5 D5 kp5 gr5=>?_⟩;exact⟨_,_,rfl,rfl,kv5,cv5,_,_,_,rfl,ea',kp14.trans kp5,D5.more (by omega),gr2.trans gr5⟩
 ·rintro σ H2 ⟨kv2,cv2,acc,x5,x6,rfl,ea,kp2,D2,gr2⟩;rw[ai,zks,sG]at ea;rw[ai,zks]at D2;have m5:A.length * (1+5 * nB d)<=5 * (1+5 * nB d):=dW _ zA;have kk:=k kv2 cv2 H2 (D2.more (by omega)) (kp1.trans kp2) (gr1.trans gr2);rw[ea]at kk;exact kk
inductive oo(K:Za)(Cm:Addr)(vs:List V)(H:Hp)(Q:VK)(E:XK):Prop
 |mk (M:Addr) (d:Nat) (tv:V) (T:Tr) (J0 J2 J4:Zb) (ds:List ak):(vs=[.ref M,.int (d:Nat),tv])->(d<=4)->(bA Cm H M J0 J2 J4 ds)->(fj K H (T.dt J2) tv)->(T.wf J0 J2)->(T.hgt<=4)->(∀H',ab H H'->Q (Ff (numM J0 J2 J4 ds d (closF J4 ds (J4.take 1)) T)) H')->oo K Cm vs H Q E
theorem EB{K:Za}{Cm Ck Cd:Addr}{vs:List V}{H:Hp}{Q:VK}{E:XK}(h:oo K Cm vs H Q E):yI K Cd (jr Cm Ck Cd) (m9 K Cm Ck Cd 4) (bS Cm) ck (lF K Cm) (be Q) (start zZ vs) H:=by
 obtain⟨M,d,tv,T,J0,J2,J4,ds,rfl,hd,MA0,htv,wf,hg,k⟩:=h;have z2:=MA0.ok.says4;have z3:=MA0.ok.rooms26;have bd:=HI d hd;refine⟨_,rfl,_,rfl,M,tv,T,J0,J2,J4,ds,rfl,MA0,htv,wf,aG (zj z2 4 T [] [] wf hg) (by decide),fun e he=>?_,fun Ha Sa=>?_⟩
 ·have:=zi J2 T [] [] e he;have:([]:List Nat).length=0:=rfl;omega
 have MA:=MA0.same Sa;refine⟨_,rfl,d,rfl,hd,?_⟩;refine⟨_,rfl,fun x dx hx hdx ne=>?_⟩;have S0:ab Ha (upd (upd Ha dx (.own x)) x (.ins Cd dx [])):=fun b o e=>by rw[ah (ae e hx)];exact kp e hdx
 refine⟨Ha,x,dx,M,J0,J2,J4,ds,rfl,aa,MA,hx,S0,fun Hs sl y kd cd us H1 St Dy S1=>⟨rfl,?_⟩⟩;obtain⟨dx1,fs1,g1,_,_,_,l4⟩:=St.ob;refine⟨x,dx1,fs1,rfl,Dy.ks.same _ _ g1,l4 "number_at" (by decide +kernel) (by decide +kernel) (by decide +kernel),_,rfl,M,J0,J2,J4,ds,rfl,St.ks.mach.same Dy.ks.same,fun t F H2 ht hF S2=>?_⟩;rw[jD hF]at ht;refine⟨_,rfl,_,rfl,Hs,x,sl,y,M,kd,cd,us,.ref t,tv,T,[],[],0,d,_,J0,J2,J4,ds,rfl,hd,St,Dy.up S2,.inr ⟨t,rfl,ht⟩,fun _=>uy MA.ok.rooms0,lR,aG jC (by omega),fj.kt (ab.kt (Sa.trans (S1.trans (Dy.ks.same.trans S2)))) _ _ htv,wf,hg,by omega,fun kv3 cv3 H3 D3 _ _=>k H3 (Sa.trans (S1.trans D3.ks.same))⟩
def Dh(c:Sg->Int):List Sg->Int
 |[]=>1
 |sg::r=>Dh c r * c sg
theorem tQ(c:Sg->Int)(l:List Sg):Dh c l.reverse=fg (l.map c):=by
 rw[<-vQ];have key:∀l:List Sg,Dh c l=l.foldr (fun sg b=>b * c sg) 1:=fun l=>by
  induction l with
  |nil=>rfl
  |cons x r ih=>rw[Dh,ih];rfl
 rw[key,List.foldr_reverse]
def lz(c c':Sg->Int)(g:Sg->Int->Int):List Sg->Int->Int
 |[],_=>0
 |sg::r,n=>lz c c' g r (n / c sg) * c' sg+g sg (n % c sg)
section
variable{c c':Sg->Int}{g:Sg->Int->Int}(hc:∀sg,0<c sg)(hc':∀sg,0<c' sg)(hg:∀sg n,0<=n->n<c sg->0<=g sg n/\g sg n<c' sg)
include hc hc' hg
theorem s_(sg:Sg)(n:Int):0<=g sg (n % c sg)/\g sg (n % c sg)<c' sg:=hg sg _ (g_ _ (by have:=hc sg;omega)) (g9 _ (hc sg))
theorem pJ:∀(l:List Sg) (n:Int),0<=lz c c' g l n
 |[],_=>mI _
 |sg::r,n=>by
  have h1:=Int.mul_nonneg (pJ r (n / c sg)) (mE (hc' sg));have h2:=(s_ hc hc' hg sg n).1;show 0<=lz c c' g r (n / c sg) * c' sg+g sg (n % c sg);omega
theorem Ek:∀(l:List Sg) (n:Int),lz c c' g l n<Dh c' l
 |[],_=>by show(0:Int)<1;decide
 |sg::r,n=>by
  have h1:=Ek r (n / c sg);have h2:=(s_ hc hc' hg sg n).2;have h3:(lz c c' g r (n / c sg)+1) * c' sg<=Dh c' r * c' sg:=Int.mul_le_mul_of_nonneg_right (by omega) (mE (hc' sg));rw[Int.add_mul,Int.one_mul]at h3;show lz c c' g r (n / c sg) * c' sg+g sg (n % c sg)<Dh c' r * c' sg;omega
theorem BG{f f':Sg->Int->Tr}(hf:∀sg n,0<=n->n<c sg->f' sg (g sg n)=f sg n):∀(l:List Sg) (n:Int),iP c' f' l (lz c c' g l n)=iP c f l n
 |[],_=>rfl
 |sg::r,n=>by
  obtain⟨h1,h2⟩:=s_ hc hc' hg sg n;have hp:=hc' sg;have e1:lz c c' g (sg::r) n % c' sg=g sg (n % c sg):=by
   show(lz c c' g r (n / c sg) * c' sg+g sg (n % c sg)) % c' sg=_;rw[Int.add_comm,Int.add_mul_emod_self_right];exact Int.emod_eq_of_lt h1 h2
  have e2:lz c c' g (sg::r) n / c' sg=lz c c' g r (n / c sg):=by
   show(lz c c' g r (n / c sg) * c' sg+g sg (n % c sg)) / c' sg=_;rw[Int.add_comm,Int.add_mul_ediv_right _ _ (by omega),Int.ediv_eq_zero_of_lt h1 h2,Int.zero_add]
  rw[iP,iP,e1,e2,BG hf r,hf sg _ (g_ _ (by have:=hc sg;omega)) (g9 _ (hc sg))]
theorem BF(hm:∀sg n1 n2,0<=n1->n1<n2->n2<c sg->g sg n1<g sg n2):∀(l:List Sg) (n1 n2:Int),0<=n1->n1<n2->n2<Dh c l->lz c c' g l n1<lz c c' g l n2
 |[],n1,n2,h0,h1,h2=>by
  have h2:n2<1:=h2;omega
 |sg::r,n1,n2,h0,h1,h2=>by
  have hp:=hc sg;have hp':=hc' sg;have h2:n2<Dh c r * c sg:=h2;have q1:=Int.emod_add_mul_ediv n1 (c sg);have q2:=Int.emod_add_mul_ediv n2 (c sg);have l2:n2 / c sg<Dh c r:=Int.ediv_lt_of_lt_mul hp h2;have le:n1 / c sg<=n2 / c sg:=Int.ediv_le_ediv hp (mE h1);have d1:=s_ hc hc' hg sg n1;have d2:=s_ hc hc' hg sg n2;show lz c c' g r (n1 / c sg) * c' sg+g sg (n1 % c sg)<lz c c' g r (n2 / c sg) * c' sg+g sg (n2 % c sg);by_cases e:n1 / c sg=n2 / c sg
  ·rw[e]at q1 ⊢;have:=hm sg (n1 % c sg) (n2 % c sg) (g_ _ (by omega)) (by omega) (g9 _ hp);omega
  ·have ih:=BF hm r (n1 / c sg) (n2 / c sg) (Int.ediv_nonneg h0 (by omega)) (by omega) l2;have h3:(lz c c' g r (n1 / c sg)+1) * c' sg<=lz c c' g r (n2 / c sg) * c' sg:=Int.mul_le_mul_of_nonneg_right (by omega) (mE hp');rw[Int.add_mul,Int.one_mul]at h3;omega
end
theorem vM(c:Sg->Int)(f:Sg->Tr->Option Int)(x:Sg×Tr):∀(L:List (Sg×Tr)) (acc:Int),dZ c f (L++[x]) acc=(dZ c f L acc).bind fun b=>(f x.1 x.2).map fun own=>b * c x.1+own
 |[],acc=>by
  show dZ c f [x] acc=_;unfold dZ;cases f x.1 x.2 with
  |none=>rfl
  |some own=>rfl
 |y::L,acc=>by
  show dZ c f (y::(L++[x])) acc=_;unfold dZ;cases f y.1 y.2 with
  |none=>rfl
  |some own=>exact vM c f x L _
theorem Cb{c c':Sg->Int}{g:Sg->Int->Int}{f:Sg->Int->Tr}{nu:Sg->Tr->Option Int}(hc:∀sg,0<c sg)(hn:∀sg n,0<=n->n<c sg->nu sg (f sg n)=some (g sg n)):∀(l:List Sg) (m:Int),dZ c' nu (l.reverse.zip (iP c f l m).reverse) 0=some (lz c c' g l m)
 |[],_=>rfl
 |sg::r,m=>by
  rw[iP,pE,pE,List.zip_append (by rw[hE,hE,qk])];show dZ c' nu (_++[(sg,f sg (m % c sg))]) 0=_;rw[vM,Cb hc hn r];show(nu sg (f sg (m % c sg))).map _=_;rw[hn sg _ (g_ _ (by have:=hc sg;omega)) (g9 _ (hc sg))]
  rfl
theorem BS{c:Option Str->Int}:∀{A:List (Option Str)}{n:Int},0<=n->n<(A.map c).sum->∃a m,eC c A n=some (a,m)
 |[],n,h0,h1=>by
  have h1:n<0:=h1;omega
 |b::r,n,h0,h1=>by
  rw[bg,mG]at h1;unfold eC;by_cases h:n<c b
  ·exact⟨b,n,if_pos h⟩
  ·rw[if_neg h];exact BS (by omega) (by omega)
theorem BR{c c':Option Str->Int}(hc':∀a,0<c' a):∀{A:List (Option Str)}{n:Int}{a:Option Str}{m:Int},A.Nodup->0<=n->eC c A n=some (a,m)->∃s,(∀acc,gp c' A a acc=some (acc+s))/\0<=s/\0<=m/\m<c a/\∀x,0<=x->x<c' a->eC c' A (s+x)=some (a,x)
 |[],_,_,_,_,_,h=>by cases h
 |b::r,n,a,m,nd,h0,h=>by
  unfold eC at h;by_cases hl:n<c b
  ·rw[if_pos hl]at h;injection h with h;injection h with h1 h2;subst h1 h2;refine⟨0,fun acc=>?_,mI _,h0,hl,fun x x0 x1=>?_⟩
   ·unfold gp;rw[if_pos rfl,Int.add_zero]
   ·unfold eC;rw[Int.zero_add,if_pos x1]
  ·rw[if_neg hl]at h;have nd':=nM.1 nd;have ne:b≠a:=fun z=>nd'.1 (by rw[z];exact js h);obtain⟨s,h1,h2,h3,h4,h5⟩:=BR hc' nd'.2 (show 0<=n-c b by omega) h;have hb:=hc' b;refine⟨c' b+s,fun acc=>?_,by omega,h3,h4,fun x x0 x1=>?_⟩
   ·unfold gp;rw[if_neg ne,h1,Int.add_assoc]
   ·unfold eC;rw[if_neg (by omega),show c' b+s+x-c' b=s+x by omega];exact h5 x x0 x1
theorem vB{c c':Option Str->Int}(hc':∀a,0<c' a):∀{A:List (Option Str)}{n1 n2:Int}{a1 a2:Option Str}{m1 m2 acc s1 s2:Int},A.Nodup->0<=n1->n1<n2->eC c A n1=some (a1,m1)->eC c A n2=some (a2,m2)->gp c' A a1 acc=some s1->gp c' A a2 acc=some s2->(a1=a2/\m1<m2/\s1=s2)∨s1+c' a1<=s2
 |[],_,_,_,_,_,_,_,_,_,_,_,_,h,_,_,_=>by cases h
 |b::r,n1,n2,a1,a2,m1,m2,acc,s1,s2,nd,h0,hl,p1,p2,q1,q2=>by
  have nd':=nM.1 nd;unfold eC at p1 p2;unfold gp at q1 q2;by_cases c1:n1<c b
  ·rw[if_pos c1]at p1;injection p1 with p1;injection p1 with e1 e2;subst e1 e2;rw[if_pos rfl]at q1;injection q1 with q1;by_cases c2:n2<c b
   ·rw[if_pos c2]at p2;injection p2 with p2;injection p2 with e1 e2;subst e1 e2;rw[if_pos rfl]at q2;injection q2 with q2;exact .inl ⟨rfl,hl,q1.symm.trans q2⟩
   ·rw[if_neg c2]at p2;have ne:b≠a2:=fun z=>nd'.1 (by rw[z];exact js p2);rw[if_neg ne]at q2;have:=(k_ hc' q2).1;exact .inr (by omega)
  ·have c2:¬n2<c b:=by omega
   rw[if_neg c1]at p1;rw[if_neg c2]at p2;rw[if_neg (fun z=>nd'.1 (by rw[z];exact js p1))]at q1;rw[if_neg (fun z=>nd'.1 (by rw[z];exact js p2))]at q2;exact vB hc' nd'.2 (by omega) (by omega) p1 p2 q1 q2
def upE(J0 J2 J4:Zb)(ds:List ak)(d:Nat)(J8:Zb)(n:Int):Int:=(numM J0 J2 J4 ds (d+1) J8 (nthT J0 J2 J4 ds d J8 n)).getD 0
structure UpOk(J0 J2 J4:Zb)(ds:List ak)(d:Nat):Prop where
 num:∀J8 n,0<=n->n<cntM J0 J2 J4 ds d J8->numM J0 J2 J4 ds (d+1) J8 (nthT J0 J2 J4 ds d J8 n)=some (upE J0 J2 J4 ds d J8 n)
 nth:∀J8 n,0<=n->n<cntM J0 J2 J4 ds d J8->nthT J0 J2 J4 ds (d+1) J8 (upE J0 J2 J4 ds d J8 n)=nthT J0 J2 J4 ds d J8 n
 mono:∀J8 n1 n2,0<=n1->n1<n2->n2<cntM J0 J2 J4 ds d J8->upE J0 J2 J4 ds d J8 n1<upE J0 J2 J4 ds d J8 n2
 zero:∀J8,upE J0 J2 J4 ds d J8 0=0
theorem t7(J0 J2 J4:Zb)(ds:List ak)(n:Int):∀d,nthT J0 J2 J4 ds d [] n=.bl
 |0=>by unfold nthT;rw[if_pos rfl]
 |d+1=>by unfold nthT;rw[if_pos rfl]
theorem t8{J0 J2 J4 J8:Zb}{ds:List ak}(h:J8≠[]):∀d,nthT J0 J2 J4 ds d J8 0=.en
 |0=>by unfold nthT;rw[if_neg h]
 |d+1=>by unfold nthT;rw[if_neg h,if_pos rfl]
theorem p_{J0 J2 J4 J8:Zb}{ds:List ak}{d:Nat}{n:Int}{a:Option Str}{m:Int}(h:J8≠[])(h0:n≠0)(hp:eC (prodA J0 J2 J4 ds d J8) ((askedF J0 J4 ds J8).map some++[none]) (n-1)=some (a,m)):
  nthT J0 J2 J4 ds (d+1) J8 n=.nd a (iP (fun sg=>cntM J0 J2 J4 ds d (behF J4 ds J8 sg)) (fun sg=>nthT J0 J2 J4 ds d (behF J4 ds J8 sg)) (au J2 a).reverse m).reverse:=by
 unfold nthT;rw[if_neg h,if_neg h0,hp]
theorem Hd(J0 J2 J4:Zb)(ds:List ak)(d:Nat):numM J0 J2 J4 ds d [] .bl=some 0:=by unfold numM;rw[if_pos rfl]
theorem Hc{J0 J2 J4 J8:Zb}{ds:List ak}{d:Nat}(h:J8≠[]):numM J0 J2 J4 ds d J8 .en=some 0:=by unfold numM;rw[if_neg h]
theorem wQ(J0 J2 J4:Zb)(ds:List ak)(d:Nat)(J8:Zb):numM J0 J2 J4 ds (d+1) J8 (nthT J0 J2 J4 ds d J8 0)=some 0:=by
 by_cases h:J8=[]
 ·rw[h,t7,Hd]
 ·rw[t8 h,Hc h]
theorem iC(J0 J2 J4:Zb)(ds:List ak)(d:Nat)(J8:Zb):upE J0 J2 J4 ds d J8 0=0:=by unfold upE;rw[wQ];rfl
theorem vD(J0 J2 J4:Zb)(ds:List ak)(d:Nat)(J8:Zb):nthT J0 J2 J4 ds (d+1) J8 0=nthT J0 J2 J4 ds d J8 0:=by
 by_cases h:J8=[]
 ·rw[h,t7,t7]
 ·rw[t8 h,t8 h]
theorem qZ{J0 J4 J8:Zb}{ds:List ak}(h:J0.Nodup):((askedF J0 J4 ds J8).map some++[none]:List (Option Str)).Nodup:=by
 rw[dw];refine⟨?_,by simp,fun a ha b hb e=>?_⟩
 ·have:(askedF J0 J4 ds J8).Nodup:=List.Pairwise.filter _ h;exact List.Pairwise.map _ (fun a b hab z=>hab (by injection z)) this
 ·obtain⟨x,_,rfl⟩:=aL.1 ha;rw[cC.1 hb]at e;cases e
theorem I_{J0 J2 J4:Zb}{ds:List ak}(nd:J0.Nodup):∀d,UpOk J0 J2 J4 ds d:=by
 intro d
 induction d with
 |zero =>
  have one:∀J8,cntM J0 J2 J4 ds 0 J8=1:=fun J8=>by unfold cntM;rfl
  refine⟨fun J8 n h0 h1=>?_,fun J8 n h0 h1=>?_,fun J8 n1 n2 h0 h1 h2=>?_,iC J0 J2 J4 ds 0⟩
  ·rw[one]at h1;rw[show n=0 by omega,iC,wQ]
  ·rw[one]at h1;rw[show n=0 by omega,iC,vD]
  ·rw[one]at h2;omega
 |succ d ih =>
  have small:∀{J8 n},J8=[]->0<=n->n<cntM J0 J2 J4 ds (d+1) J8->n=0:=fun{J8 n} e h0 h1=>by
   rw[e,uw]at h1;omega
  have form:∀{J8:Zb}{n:Int}{a:Option Str}{m:Int},J8≠[]->0<n->eC (prodA J0 J2 J4 ds d J8) ((askedF J0 J4 ds J8).map some++[none]) (n-1)=some (a,m) ->
    ∃s,gp (prodA J0 J2 J4 ds (d+1) J8) ((askedF J0 J4 ds J8).map some++[none]) a 1=some (1+s)/\0<=s/\0<=m/\m<prodA J0 J2 J4 ds d J8 a/\numM J0 J2 J4 ds (d+2) J8 (nthT J0 J2 J4 ds (d+1) J8 n)=some (1+s+lz (fun sg=>cntM J0 J2 J4 ds d (behF J4 ds J8 sg)) (fun sg=>cntM J0 J2 J4 ds (d+1) (behF J4 ds J8 sg)) (fun sg=>upE J0 J2 J4 ds d (behF J4 ds J8 sg)) (au J2 a).reverse m)/\nthT J0 J2 J4 ds (d+2) J8 (1+s+lz (fun sg=>cntM J0 J2 J4 ds d (behF J4 ds J8 sg)) (fun sg=>cntM J0 J2 J4 ds (d+1) (behF J4 ds J8 sg)) (fun sg=>upE J0 J2 J4 ds d (behF J4 ds J8 sg)) (au J2 a).reverse m)=nthT J0 J2 J4 ds (d+1) J8 n:=by
   intro J8 n a m hne hn hp;have hc:∀sg,0<(fun sg=>cntM J0 J2 J4 ds d (behF J4 ds J8 sg)) sg:=fun sg=>gH J0 J2 J4 ds d _;have hc':∀sg,0<(fun sg=>cntM J0 J2 J4 ds (d+1) (behF J4 ds J8 sg)) sg:=fun sg=>gH J0 J2 J4 ds (d+1) _;have hg:∀(sg:Sg) (n:Int),0<=n->n<(fun sg=>cntM J0 J2 J4 ds d (behF J4 ds J8 sg)) sg->0<=(fun sg=>upE J0 J2 J4 ds d (behF J4 ds J8 sg)) sg n/\(fun sg=>upE J0 J2 J4 ds d (behF J4 ds J8 sg)) sg n<(fun sg=>cntM J0 J2 J4 ds (d+1) (behF J4 ds J8 sg)) sg:=fun sg n h0 h1=>jv J0 J2 J4 ds (d+1) _ _ _ (ih.num (behF J4 ds J8 sg) n h0 h1) (sm J0 J2 J4 ds d _ n).1;obtain⟨s,h1,h2,h3,h4,h5⟩:=BR (p8 J0 J2 J4 ds (d+1) J8) (qZ nd) (show 0<=n-1 by omega) hp;have u0:0<=lz (fun sg=>cntM J0 J2 J4 ds d (behF J4 ds J8 sg)) (fun sg=>cntM J0 J2 J4 ds (d+1) (behF J4 ds J8 sg)) (fun sg=>upE J0 J2 J4 ds d (behF J4 ds J8 sg)) (au J2 a).reverse m:=pJ hc hc' hg (au J2 a).reverse m;have u1:lz (fun sg=>cntM J0 J2 J4 ds d (behF J4 ds J8 sg)) (fun sg=>cntM J0 J2 J4 ds (d+1) (behF J4 ds J8 sg)) (fun sg=>upE J0 J2 J4 ds d (behF J4 ds J8 sg)) (au J2 a).reverse m<Dh (fun sg=>cntM J0 J2 J4 ds (d+1) (behF J4 ds J8 sg)) (au J2 a).reverse:=Ek hc hc' hg (au J2 a).reverse m;rw[tQ]at u1;have u1:lz (fun sg=>cntM J0 J2 J4 ds d (behF J4 ds J8 sg)) (fun sg=>cntM J0 J2 J4 ds (d+1) (behF J4 ds J8 sg)) (fun sg=>upE J0 J2 J4 ds d (behF J4 ds J8 sg)) (au J2 a).reverse m<prodA J0 J2 J4 ds (d+1) J8 a:=u1;refine⟨s,h1 1,h2,h3,h4,?_,?_⟩
   ·rw[p_ hne (by omega) hp];show numM J0 J2 J4 ds (d+1+1) J8 (.nd a _)=_;unfold numM;rw[if_neg hne,h1 1];have:=Cb (c:=fun sg=>cntM J0 J2 J4 ds d (behF J4 ds J8 sg)) (c':=fun sg=>cntM J0 J2 J4 ds (d+1) (behF J4 ds J8 sg)) (g:=fun sg=>upE J0 J2 J4 ds d (behF J4 ds J8 sg)) (f:=fun sg=>nthT J0 J2 J4 ds d (behF J4 ds J8 sg)) (nu:=fun sg p=>numM J0 J2 J4 ds (d+1) (behF J4 ds J8 sg) p) hc (fun sg n h0 h1=>ih.num (behF J4 ds J8 sg) n h0 h1) (au J2 a).reverse m;rw[List.reverse_reverse]at this;show Option.map _ (dZ _ _ ((au J2 a).zip _) 0)=_;rw[this];rfl
   ·have e1:=h5 _ u0 u1;have ne0:1+s+lz (fun sg=>cntM J0 J2 J4 ds d (behF J4 ds J8 sg)) (fun sg=>cntM J0 J2 J4 ds (d+1) (behF J4 ds J8 sg)) (fun sg=>upE J0 J2 J4 ds d (behF J4 ds J8 sg)) (au J2 a).reverse m≠0:=by omega
    rw[p_ (d:=d+1) hne ne0 (by rw[show 1+s+lz (fun sg=>cntM J0 J2 J4 ds d (behF J4 ds J8 sg)) (fun sg=>cntM J0 J2 J4 ds (d+1) (behF J4 ds J8 sg)) (fun sg=>upE J0 J2 J4 ds d (behF J4 ds J8 sg)) (au J2 a).reverse m-1=s+lz (fun sg=>cntM J0 J2 J4 ds d (behF J4 ds J8 sg)) (fun sg=>cntM J0 J2 J4 ds (d+1) (behF J4 ds J8 sg)) (fun sg=>upE J0 J2 J4 ds d (behF J4 ds J8 sg)) (au J2 a).reverse m by omega];exact e1),p_ hne (by omega) hp];have:=BG hc hc' hg (f:=fun sg=>nthT J0 J2 J4 ds d (behF J4 ds J8 sg)) (f':=fun sg=>nthT J0 J2 J4 ds (d+1) (behF J4 ds J8 sg)) (fun sg n h0 h1=>ih.nth (behF J4 ds J8 sg) n h0 h1) (au J2 a).reverse m;rw[this]
  have pex:∀{J8:Zb}{n:Int},J8≠[]->0<n->n<cntM J0 J2 J4 ds (d+1) J8->∃a m,eC (prodA J0 J2 J4 ds d J8) ((askedF J0 J4 ds J8).map some++[none]) (n-1)=some (a,m):=fun{J8 n} hne h0 h1=>by
   rw[xV hne]at h1;exact BS (by omega) (by omega)
  refine⟨fun J8 n h0 h1=>?_,fun J8 n h0 h1=>?_,fun J8 n1 n2 h0 h1 h2=>?_,iC J0 J2 J4 ds (d+1)⟩
  ·by_cases hn:n=0
   ·rw[hn,iC,wQ]
   ·have hne:J8≠[]:=fun e=>hn (small e h0 h1);obtain⟨a,m,hp⟩:=pex hne (by omega) h1;obtain⟨s,_,_,_,_,e,_⟩:=form hne (by omega) hp;unfold upE;rw[e];rfl
  ·by_cases hn:n=0
   ·rw[hn,iC,vD]
   ·have hne:J8≠[]:=fun e=>hn (small e h0 h1);obtain⟨a,m,hp⟩:=pex hne (by omega) h1;obtain⟨s,_,_,_,_,e,e2⟩:=form hne (by omega) hp;unfold upE;rw[e];exact e2
  ·have hne:J8≠[]:=fun e=>by have:=small e (by omega) h2;omega
   obtain⟨a2,m2,hp2⟩:=pex hne (by omega) h2;obtain⟨s2,q2,s20,m20,m21,e2,_⟩:=form hne (by omega) hp2;have hc:∀sg,0<(fun sg=>cntM J0 J2 J4 ds d (behF J4 ds J8 sg)) sg:=fun sg=>gH J0 J2 J4 ds d _;have hc':∀sg,0<(fun sg=>cntM J0 J2 J4 ds (d+1) (behF J4 ds J8 sg)) sg:=fun sg=>gH J0 J2 J4 ds (d+1) _;have hg:∀(sg:Sg) (n:Int),0<=n->n<(fun sg=>cntM J0 J2 J4 ds d (behF J4 ds J8 sg)) sg->0<=(fun sg=>upE J0 J2 J4 ds d (behF J4 ds J8 sg)) sg n/\(fun sg=>upE J0 J2 J4 ds d (behF J4 ds J8 sg)) sg n<(fun sg=>cntM J0 J2 J4 ds (d+1) (behF J4 ds J8 sg)) sg:=fun sg n h0 h1=>jv J0 J2 J4 ds (d+1) _ _ _ (ih.num (behF J4 ds J8 sg) n h0 h1) (sm J0 J2 J4 ds d _ n).1;have u2:0<=lz (fun sg=>cntM J0 J2 J4 ds d (behF J4 ds J8 sg)) (fun sg=>cntM J0 J2 J4 ds (d+1) (behF J4 ds J8 sg)) (fun sg=>upE J0 J2 J4 ds d (behF J4 ds J8 sg)) (au J2 a2).reverse m2:=pJ hc hc' hg (au J2 a2).reverse m2;have f2:upE J0 J2 J4 ds (d+1) J8 n2=1+s2+lz (fun sg=>cntM J0 J2 J4 ds d (behF J4 ds J8 sg)) (fun sg=>cntM J0 J2 J4 ds (d+1) (behF J4 ds J8 sg)) (fun sg=>upE J0 J2 J4 ds d (behF J4 ds J8 sg)) (au J2 a2).reverse m2:=by unfold upE;rw[e2];rfl
   by_cases hn:n1=0
   ·rw[hn,iC,f2];omega
   obtain⟨a1,m1,hp1⟩:=pex hne (by omega) (show n1<_ by omega);obtain⟨s1,q1,s10,m10,m11,e1,_⟩:=form hne (by omega) hp1;have f1:upE J0 J2 J4 ds (d+1) J8 n1=1+s1+lz (fun sg=>cntM J0 J2 J4 ds d (behF J4 ds J8 sg)) (fun sg=>cntM J0 J2 J4 ds (d+1) (behF J4 ds J8 sg)) (fun sg=>upE J0 J2 J4 ds d (behF J4 ds J8 sg)) (au J2 a1).reverse m1:=by unfold upE;rw[e1];rfl
   rw[f1,f2];rcases vB (p8 J0 J2 J4 ds (d+1) J8) (qZ nd) (show 0<=n1-1 by omega) (show n1-1<n2-1 by omega) hp1 hp2 q1 q2 with⟨ea,ml,es⟩|hs
   ·subst ea;have h3:Dh (fun sg=>cntM J0 J2 J4 ds d (behF J4 ds J8 sg)) (au J2 a1).reverse=prodA J0 J2 J4 ds d J8 a1:=tQ _ _;have:lz (fun sg=>cntM J0 J2 J4 ds d (behF J4 ds J8 sg)) (fun sg=>cntM J0 J2 J4 ds (d+1) (behF J4 ds J8 sg)) (fun sg=>upE J0 J2 J4 ds d (behF J4 ds J8 sg)) (au J2 a1).reverse m1<lz (fun sg=>cntM J0 J2 J4 ds d (behF J4 ds J8 sg)) (fun sg=>cntM J0 J2 J4 ds (d+1) (behF J4 ds J8 sg)) (fun sg=>upE J0 J2 J4 ds d (behF J4 ds J8 sg)) (au J2 a1).reverse m2:=BF hc hc' hg (fun sg n1 n2 h0 h1 h2=>ih.mono (behF J4 ds J8 sg) n1 n2 h0 h1 h2) (au J2 a1).reverse m1 m2 m10 ml (by rw[h3];exact m21);omega
   ·have u1:lz (fun sg=>cntM J0 J2 J4 ds d (behF J4 ds J8 sg)) (fun sg=>cntM J0 J2 J4 ds (d+1) (behF J4 ds J8 sg)) (fun sg=>upE J0 J2 J4 ds d (behF J4 ds J8 sg)) (au J2 a1).reverse m1<Dh (fun sg=>cntM J0 J2 J4 ds (d+1) (behF J4 ds J8 sg)) (au J2 a1).reverse:=Ek hc hc' hg (au J2 a1).reverse m1;rw[tQ]at u1;have u1:lz (fun sg=>cntM J0 J2 J4 ds d (behF J4 ds J8 sg)) (fun sg=>cntM J0 J2 J4 ds (d+1) (behF J4 ds J8 sg)) (fun sg=>upE J0 J2 J4 ds d (behF J4 ds J8 sg)) (au J2 a1).reverse m1<prodA J0 J2 J4 ds (d+1) J8 a1:=u1;omega
theorem at49{r:Int}(r0:0<=r)(r6:r<6):∃n:Nat,yb [V.int 3,.int 2,.int 1,.int 0,.int 2,.int 3] r=some (.int n)/\n<=3:=by
 have:r=0∨r=1∨r=2∨r=3∨r=4∨r=5:=by omega
 rcases this with rfl|rfl|rfl|rfl|rfl|rfl
 ·exact⟨3,rfl,by decide⟩
 ·exact⟨2,rfl,by decide⟩
 ·exact⟨1,rfl,by decide⟩
 ·exact⟨0,rfl,by decide⟩
 ·exact⟨2,rfl,by decide⟩
 ·exact⟨3,rfl,by decide⟩
theorem FB{H:Hp}{a:Addr}{o:HO}(h:H a=none):iW (upd H a o) a=H:=funext fun b=>by
 by_cases c:b=a
 ·rw[c,gm,h]
 ·rw[eM c,ah c]
theorem Dw{a:Addr}{H:Hp}{o:HO}:iW (upd H a o) a=iW H a:=funext fun b=>by
 by_cases c:b=a
 ·rw[c,gm,gm]
 ·rw[eM c,eM c,ah c]
inductive sp_law49(K:Za)(vs:List V)(H:Hp)(Q:VK)(E:XK):Prop
 |mk (a:Addr) (ns:List Int):(vs=[.ref a])->(az K H a (ns.map V.int))->(ns.length<=63)->(∀H',Q (.bl true) H')->sp_law49 K vs H Q E
theorem EF{K:Za}{C:Addr}{vs:List V}{H:Hp}{Q:VK}{E:XK}(h:sp_law49 K vs H Q E):Go K (lG K C) (oo K C) xo (jM K 4) oA gE (jL C) ox (r9 K) (be Q) (start CC vs) H:=by
 obtain⟨a,ns,rfl,hs,hn,k⟩:=h;refine⟨_,rfl,a,ns,rfl,hs,hn,fun p c H1 _ hp1 S1=>?_⟩;refine⟨_,rfl,_,rfl,p,c,2,rfl,hp1,by decide,by decide,fun r H2 r0 r2 hp2 ex2=>?_⟩;refine⟨p,c,6,r,rfl,hp2,by decide,by decide,r0,by omega,fun t l1 l2 l3 l4 ts J0 J2 J4 ds H3 T3 m hrl few hp3 ex3=>?_⟩;have z3:=m.rooms26;have nda:J0.Nodup:=m.okA.1;refine⟨_,rfl,t,l1,l2,l3,l4,ts,J0,J2,J4,ds,rfl,T3,m,fun M H4 M4 S4=>?_⟩;have T4:=T3.same S4;have hp4:=hp3.ex S4;refine⟨(by show 6<=aj;decide),fun dl hdl=>?_⟩;have np:p≠dl:=hp4.nep hdl;have S5:ab H4 (upd H4 dl (.lst [.int 3,.int 2,.int 1,.int 0,.int 2,.int 3])):=ab.new hdl;have dl5:upd H4 dl (.lst [.int 3,.int 2,.int 1,.int 0,.int 2,.int 3]) dl=some (.lst [.int 3,.int 2,.int 1,.int 0,.int 2,.int 3]):=aa;generalize upd H4 dl (.lst [.int 3,.int 2,.int 1,.int 0,.int 2,.int 3])=H5 at S5 dl5 ⊢;have hp5:=hp4.ex S5;refine⟨_,rfl,p,c,6,rfl,hp5,by decide,by decide,fun r6 H6 r60 r66 hp6 ex6=>?_⟩;have T6:=(T4.same S5).ex hp5 ex6;have M6:=(M4.same S5).ex hp5 ex6;obtain⟨d,ed,hd⟩:=at49 r60 r66;obtain⟨bd,dd⟩:=HF d (by omega);obtain⟨_,dd1⟩:=HF (d+1) (by omega);refine⟨dl,_,r6,.int (d:Nat),rfl,rfl,az.of (ex6 _ _ dl5 np.symm),ed,?_⟩;refine⟨_,rfl,fun kd hkd=>?_⟩;have S7:ab H6 (upd H6 kd (.dT [])):=ab.new hkd;have kd7:upd H6 kd (.dT []) kd=some (.dT []):=aa;generalize upd H6 kd (.dT [])=H7 at S7 kd7 ⊢;refine⟨_,rfl,t,l1,l2,l3,l4,ts,J0,J2,J4,ds,rfl,T6.same S7,m,fun f H8 hf S8=>?_⟩;have S68:=S7.trans S8;have D8:eV noX H8 kd [] J0 J2 J4 ds 0:=⟨S8 _ _ kd7,fun _ h=>(by cases h),cG _⟩;have fl:(closF J4 ds (J4.take 1)).length<=1000:=aG jC (by omega);generalize hF:closF J4 ds (J4.take 1)=F at hf fl;refine⟨_,rfl,noX,IB,H6,t,l1,l2,l3,l4,kd,f,ts,[],0,d,F,J0,J2,J4,ds,rfl,by omega,T6,m,hkd,S68,D8,hf,fl,by omega,fun kv9 H9 D9 ex9=>?_⟩;have S69:=ca.sameH S68 hkd ex9;have M9:=M6.same S69;have hp9:=hp6.ex S69;have mp:=gH J0 J2 J4 ds d F;generalize hmany:cntM J0 J2 J4 ds d F=many at mp;refine⟨_,rfl,_,_,rfl,rfl,(by show 2<=aj;decide),fun sl hsl=>?_⟩;have nps:p≠sl:=hp9.nep hsl;have ncs:c≠sl:=hp9.nec hsl;have hp10:gW (upd H9 sl (.lst [.int 0,.int (many-1)])) p c:=hp9.ex (ab.new hsl);have sl10:upd H9 sl (.lst [.int 0,.int (many-1)]) sl=some (.lst (([0,many-1]:List Int).map V.int)):=aa;have M10:bA C (iW (upd H9 sl (.lst [.int 0,.int (many-1)])) sl) M J0 J2 J4 ds:=by rw[FB hsl];exact M9
 generalize upd H9 sl (.lst [.int 0,.int (many-1)])=H10 at hp10 sl10 M10 ⊢;refine⟨3,rfl,by decide,by decide,?_⟩;refine jx (lo:=0) (n:=Int.toNat 3) (fun i σ H'=>∃(xs:List Int) (x7 x8 x9 x10 x11:Option V),σ=[some (.ref a),some (.ref p),some (.ref t),some (.ref M),some (.int (d:Nat)),some (.int many),some (.ref sl),x7,x8,x9,x10,x11]/\xs.length=2+i/\(∀x∈xs,0<=x/\x<many)/\gW H' p c/\H' sl=some (.lst (xs.map V.int))/\bA C (iW H' sl) M J0 J2 J4 ds)
  ⟨[0,many-1],_,_,_,_,_,rfl,rfl,fun x hx=>?_,hp10,sl10,M10⟩ ?_ ?_
 ·rcases cy.1 hx with rfl|hx
  ·omega
  ·rw[cC.1 hx];omega
 ·rintro i σ G hi ⟨xs,x7,x8,x9,x10,x11,rfl,zx,hx,hpG,slG,MG⟩;have hi:i<3:=hi;refine⟨_,rfl,.inl ⟨rfl,_,az.of slG⟩,_,rfl,_,rfl,p,c,many,rfl,hpG,mp,fun q G2 q0 q1 hp2 ex2=>?_⟩;have sl2:=ex2 _ _ slG nps.symm;refine⟨sl,_,_,rfl,rfl,sl2,by rw[ai,zx];exact am (by omega),xs++[q],_,_,_,_,_,rfl,by rw[aE,zx];rfl,fun x hx'=>?_,gW.upd hp2 nps ncs,by rw[aa,ar];rfl,?_⟩
  ·rcases br.1 hx' with hx'|hx'
   ·exact hx x hx'
   ·rw[cC.1 hx'];exact⟨q0,q1⟩
  ·rw[Dw];exact MG.ex (hpG.hid2 nps ncs) (Dx ex2)
 rintro σ G ⟨xs,x7,x8,x9,x10,x11,rfl,zx,hx,hpG,slG,MG⟩;have zx:xs.length=5:=zx;refine⟨_,rfl,sl,xs,rfl,az.of slG,by omega,fun so ns' hso pm pw=>?_⟩;have MG':=MG.same qi;have SG:ab G (upd G so (.lst (ns'.map V.int))):=ab.new hso;have so1:upd G so (.lst (ns'.map V.int)) so=some (.lst (ns'.map V.int)):=aa;generalize upd G so (.lst (ns'.map V.int))=G1 at SG so1 ⊢;have M1:=MG'.same SG;have hx':∀x∈ns',0<=x/\x<many:=fun x h=>hx x (pm.mem_iff.1 h);have U:=I_ (J0:=J0) (J2:=J2) (J4:=J4) (ds:=ds) nda d;refine⟨so,rfl,⟨_,az.of so1⟩,?_⟩;refine cr (xs:=ns'.map V.int) (fun i σ H'=>∃(b x9 x10 x11:Option V),σ=[some (.ref a),some (.ref p),some (.ref t),some (.ref M),some (.int (d:Nat)),some (.int many),some (.ref sl),x7,b,x9,x10,x11]/\((i=0/\b=some .non)∨∃(j:Nat) (y:Int) (q:Addr),i=j+1/\ns'[j]?=some y/\b=some (.ref q)/\H' q=some (.tup [.int y,.int (upE J0 J2 J4 ds d F y)]))/\ab G1 H')
  ⟨some .non,_,_,_,rfl,.inl ⟨rfl,rfl⟩,ab.refl _⟩ (fun i σ H' _ ⟨_,_,_,_,_,_,S⟩=>az.of (S _ _ so1)) ?_ ?_
 ·rintro i w σ G2 hi ⟨b,x9,x10,x11,rfl,hb,S2⟩;obtain⟨x,hxi,rfl⟩:=ints_get hi;obtain⟨x0,x1⟩:=hx' x (cc hxi);rw[<-hmany]at x1;have en:=U.num F x x0 x1;have eT:=U.nth F x x0 x1;obtain⟨wf,hg⟩:=sm J0 J2 J4 ds d F x;obtain⟨e0,e1⟩:=jv J0 J2 J4 ds (d+1) F _ _ en wf;refine⟨_,rfl,_,rfl,_,rfl,M,d,x,J0,J2,J4,ds,rfl,by omega,M1.same S2,x0,by rw[hF];exact x1,fun v3 G3 t3 S3=>?_⟩;rw[hF,<-xC]at t3;have S13:=S2.trans S3;refine⟨_,rfl,_,rfl,_,_,rfl,rfl,_,rfl,M,d+1,v3,nthT J0 J2 J4 ds d F x,J0,J2,J4,ds,rfl,by omega,M1.same S13,t3,wf,by omega,fun G4 S4=>?_⟩;rw[hF,en];have S14:=S13.trans S4;have t4:=fj.kt (ab.kt S4) _ _ t3;refine⟨_,rfl,_,rfl,?_⟩;refine bj ⟨_,rfl,_,rfl,_,_,rfl,rfl,_,rfl,M,d+1,upE J0 J2 J4 ds d F x,J0,J2,J4,ds,rfl,by omega,M1.same S14,e0,by rw[hF];exact e1,fun v5 G5 t5 S5=>?_⟩;rw[hF,<-xC,eT]at t5;have dp:((nthT J0 J2 J4 ds d F x).dt J2).depth<=14:=aG (um J2 d _ hg) dd;have S15:=S14.trans S5;refine⟨_,rfl,_,_,fj.dIn _ _ t5,fj.dIn _ _ (fj.kt (ab.kt S5) _ _ t4),dp,dp,_,rfl,?_⟩;rw[zzr1 rfl];refine bj ?_;refine⟨_,rfl,rfl,_,rfl,?_⟩;have c1:(decide (x=0) && !decide (upE J0 J2 J4 ds d F x=0))=false:=by
   by_cases h:x=0
   ·rw[h,U.zero F];rfl
   ·rw[zzr0 h];rfl
  have e9:decide (V.int x=V.int 0)=decide (x=0):=decide_eq_decide.2 ⟨fun z=>by injection z,fun z=>by rw[z]⟩;rw[e9];have rest:(ap (cK (yX (L2.tB (BL V8)) (aW (aD IV (aD u8 FX (aD (hV K) V8 (tC (.int 1)))) (aD u8 V9 (aD (hV K) V8 (tC (.int 0))))))) (aO (tC (.bl false))) (bC)) (aI (bR (aZ V9 FX)) U8)) { nx:=fun σ H'=>∃(b x9 x10 x11:Option V),σ=[some (.ref a),some (.ref p),some (.ref t),some (.ref M),some (.int (d:Nat)),some (.int many),some (.ref sl),x7,b,x9,x10,x11]/\((i+1=0/\b=some .non)∨∃(j:Nat) (y:Int) (q:Addr),i+1=j+1/\ns'[j]?=some y/\b=some (.ref q)/\H' q=some (.tup [.int y,.int (upE J0 J2 J4 ds d F y)]))/\ab G1 H',rt:=Q } [some (.ref a),some (.ref p),some (.ref t),some (.ref M),some (.int (d:Nat)),some (.int many),some (.ref sl),x7,b,some (.int x),some v3,some (.int (upE J0 J2 J4 ds d F x))] G5:=by
   have put:(aI (bR (aZ V9 FX)) U8) { nx:=fun σ H'=>∃(b x9 x10 x11:Option V),σ=[some (.ref a),some (.ref p),some (.ref t),some (.ref M),some (.int (d:Nat)),some (.int many),some (.ref sl),x7,b,x9,x10,x11]/\((i+1=0/\b=some .non)∨∃(j:Nat) (y:Int) (q:Addr),i+1=j+1/\ns'[j]?=some y/\b=some (.ref q)/\H' q=some (.tup [.int y,.int (upE J0 J2 J4 ds d F y)]))/\ab G1 H',rt:=Q } [some (.ref a),some (.ref p),some (.ref t),some (.ref M),some (.int (d:Nat)),some (.int many),some (.ref sl),x7,b,some (.int x),some v3,some (.int (upE J0 J2 J4 ds d F x))] G5:=by
    refine⟨_,rfl,_,rfl,(by show 2<=aj;decide),fun q hq=>?_⟩;exact⟨_,_,_,_,rfl,.inr ⟨i,x,q,rfl,hxi,rfl,aa⟩,S15.trans (ab.new hq)⟩
   rcases hb with⟨_,rfl⟩|⟨j,y,q,rfl,hj,rfl,hq⟩
   ·refine⟨_,rfl,_,rfl,?_⟩;refine bj ?_;exact bj put
   ·refine⟨_,rfl,_,rfl,?_⟩;have hq5:=(S3.trans (S4.trans S5)) _ _ hq;refine bX ⟨_,rfl,_,rfl,q,_,1,_,rfl,rfl,bE.of hq5,aX (j:=1) rfl,_,_,rfl,rfl,_,rfl,_,rfl,q,_,0,_,rfl,rfl,bE.of hq5,aX (j:=0) rfl,_,_,rfl,rfl,rfl,_,rfl,?_⟩;obtain⟨y0,y1⟩:=hx' y (cc hj);have yx:y<=x:=by
     obtain⟨j1,e1⟩:=bY.1 hj;obtain⟨i1,e2⟩:=bY.1 hxi;have:=List.pairwise_iff_getElem.1 pw j (j+1) j1 i1 (Bw _);rw[e1,e2]at this;exact this
    have eqd:decide (upE J0 J2 J4 ds d F y<upE J0 J2 J4 ds d F x)=decide (y<x):=by
     by_cases h:y<x
     ·rw[zzr1 h,zzr1 (U.mono F y x y0 h x1)]
     ·have:y=x:=by omega
      rw[this,zzr0 (Int.lt_irrefl _),zzr0 (Int.lt_irrefl _)]
    rw[zzr1 (by show V.bl (decide (upE J0 J2 J4 ds d F y<upE J0 J2 J4 ds d F x))=V.bl (decide (y<x));rw[eqd])];exact bj put
  by_cases h:x=0
  ·rw[zzr1 h];refine bX ⟨_,rfl,rfl,_,rfl,?_⟩;rw[zzr1 (by rw[h,U.zero F];rfl)];exact bj rest
  ·rw[zzr0 h];refine bj ?_;exact bj rest
 ·rintro σ G2 ⟨b,x9,x10,x11,rfl,hb,S2⟩;exact k G2
def d_(i:Nat):Stmt:=PySem.Challenge.pw_mumtrial_k49_deeper_ones_in_order.main.body.getD i (.Pass ⟨0,0,0,0⟩)
local macro_rules | `(tactic| walk_at "s")=>`(tactic| exact⟨rfl,rfl,rfl,by decide +kernel,rfl,by decide +kernel,by decide +kernel⟩)
local macro_rules | `(tactic| walk_at "l")=>`(tactic| (intro _ _ _ _ h;first|exact len_h h|exact len_g h|(cases h;subst_vars;rfl)|(obtain⟨_,_,h,_⟩:=h;subst h;rfl)|((repeat obtain⟨_,h⟩:=h);subst_vars;rfl)))
theorem zzlS{us:List Value}{n:Nat}(h:us.length=n+1):∃ a t,us=a::t∧t.length=n:=by
  cases us with
  |nil=>cases h
  |cons a t=>exact⟨a,t,rfl,Nat.succ.inj h⟩
local macro_rules | `(tactic| walk_at "b")=>`(tactic| (intro _ _ _ _ _ _ us hl;(repeat (have h:=zzlS hl;clear hl;obtain⟨_,_,e,hl⟩:=h;subst e));cases List.eq_nil_of_length_eq_zero hl;rfl))
def Jz(K:Za)(x qual:Str)(st:Stmt)(f:Addr):Prop:=∃(oc:Value) (od an:Option Addr) (sl:Array (Option Value)) (kV dc pm cd ct:Value),
 K.lookup f=some ⟨oc,od,.func (iA x qual (ij st) (fT st) (bV st) .none kV dc pm an cd ct),sl⟩/\mO K cd qual=true/\gK K (.ref f)=true
theorem FG{K:Za}{x qual:Str}{st:Stmt}{f:Addr}{oc:Value}{od an:Option Addr}{sl:Array (Option Value)}{kV dc pm cd ct:Value}(l:K.lookup f=some ⟨oc,od,.func (iA x qual (ij st) (fT st) (bV st) .none kV dc pm an cd ct),sl⟩)
  (c:mO K cd qual=true) (k:gK K (.ref f)=true):Jz K x qual st f:=⟨oc,od,an,sl,kV,dc,pm,cd,ct,l,c,k⟩
def gJ(K:Za)(x:Str)(st:Stmt):Prop:=∃f,bT K bH x=some (some (.ref f))/\Jz K x x st f
theorem fnG_mk{K:Za}{x:Str}{st:Stmt}{f:Addr}{oc:Value}{od an:Option Addr}{sl:Array (Option Value)}{kV dc pm cd ct:Value}(a:bT K bH x=some (some (.ref f)))(l:K.lookup f=some ⟨oc,od,.func (iA x x (ij st) (fT st) (bV st) .none kV dc pm an cd ct),sl⟩)
  (c:mO K cd x=true) (k:gK K (.ref f)=true):gJ K x st:=⟨f,a,FG l c k⟩
def vf(K:Za)(C:Addr)(m qual:Str)(st:Stmt):Prop:=∃f,c_ K (.ref C) m=some (some (.ref f))/\yy K (.ref f)=true/\Jz K m qual st f
theorem fnM_mk{K:Za}{C:Addr}{m qual:Str}{st:Stmt}{f:Addr}{oc:Value}{od an:Option Addr}{sl:Array (Option Value)}{kV dc pm cd ct:Value}(a:c_ K (.ref C) m=some (some (.ref f)))(i:yy K (.ref f)=true)
  (l:K.lookup f=some ⟨oc,od,.func (iA m qual (ij st) (fT st) (bV st) .none kV dc pm an cd ct),sl⟩) (c:mO K cd qual=true) (k:gK K (.ref f)=true):vf K C m qual st:=⟨f,a,i,FG l c k⟩
theorem Jz.fun_{K:Za}{x qual:Str}{st:Stmt}{f:Addr}(T:Jz K x qual st f):∃fd,I0 K x qual st f fd:=by
 obtain⟨oc,od,an,sl,kV,dc,pm,cd,ct,l,c,k⟩:=T;exact⟨_,FF (st:=st) l c k⟩
def Eu:Sp:=fun _ _ _ _=>False
theorem B5{P:bO}{w:World}{K:Za}{mg:Str->Option Value}{base:Heap}{k:Nat}{f:Addr}{fd:kb}{ps:Zb}:lm P w K mg base CX0 k f fd ps Eu:=⟨fun _ _ _ _ h=>h.elim,fun _ _ _ _ _ _ _ _ _ _ _ _ _ h=>h.elim⟩
def FY(K:Za)(a:Addr)(ws:Zb):Prop:=∀H,bE K H a (ws.map V.str)
theorem r8{K:Za}{a:Addr}{ws:Zb}{o:Obj}{its:Array Value}{n:Nat}(l:K.lookup a=some o)(c:o.cls=.type "tuple")(d:o.data=.seq its n)(z:its.size<=aj)(v:aR (ws.map V.str) its.toList):FY K a ws :=
 fun _=>.inr ⟨o,its,n,l,c,d,z,v⟩
section
variable{P:bO}{w:World}{K:Za}{mg:Str->Option Value}{base h:Heap}{C:Addr}{x qual:Str}{st:Stmt}{N ps:Zb}{k:Nat}{sp:Sp}
abbrev F_(ps:Zb)(sp:Sp):Prop:=∀vs H Q E,sp vs H Q E->vs.length=ps.length
abbrev BodyOk(CX:Ee)(P:bO)(w:World)(K:Za)(mg:Str->Option Value)(base:Heap)(qual:Str)(st:Stmt)(N:Zb)(k:Nat)(sp:Sp)(nox:Cx->Cx):Prop:=N.Nodup->∀(f:Addr) (cdv:Value) (A:Around) (outer:List Env) (s:Shared) (H:Hp) (vs:List V) (Q:VK) (E:XK),eO k (A.deeper (envOfC qual (bV st) s.heap.objs.size f cdv))->(A.deeper (envOfC qual (bV st) s.heap.objs.size f cdv)).units+16<cLine->sp vs H Q E ->
 ∃t,Ae (nox (Bb CX P w K mg base N qual (bV st) f cdv A outer s H E)) (fT st) t/\t (be Q) (start N vs) H
abbrev Bq(x qual:Str)(st:Stmt)(ps:Zb):Prop:=∀(kV doc pm:Value) (an:Option Addr) (cdv ct:Value) (us:Zf),us.length=ps.length->bindArgs (iA x qual (ij st) (fT st) (bV st) .none kV doc pm an cdv ct) ⟨us,[]⟩=pure (ps.zip us)
theorem dG(X:K.In h)(G:h.Ns bH mg)(T:gJ K x st)(b:BodyOk CX0 P w K mg base x st N k sp Cx.nox)(bi:Bq x x st ps)(S:j4 N ps (bV st):=by walk_at "s")(l:F_ ps sp:=by walk_at "l"):ga P w K mg base x ps (k+1) sp:=by
 obtain⟨f,a,t⟩:=T;obtain⟨fd,F⟩:=t.fun_;exact⟨f,fd,F.ok S l fun cdv A outer s H vs Q E hr h=>b S.nd f cdv A outer s H vs Q E hr (Ca hr) h,dU X G a,F.kp,F.binds bi⟩
theorem dM(cl:CF K C)(T:vf K C x qual st)(b:BodyOk CX0 P w K mg base qual st N k sp Cx.nox)(bi:Bq x qual st ps)(S:j4 N ps (bV st):=by walk_at "s")(l:F_ ps sp:=by walk_at "l"):mj P w K mg base C x ps (k+1) sp:=by
 obtain⟨f,a,i,t⟩:=T;obtain⟨fd,F⟩:=t.fun_;exact⟨f,fd,F.ok S l fun cdv A outer s H vs Q E hr h=>b S.nd f cdv A outer s H vs Q E hr (Ca hr) h,cl,⟨a,i,F.kp⟩,F.binds bi⟩
theorem dN{y:Str}(cm:mg y=some (.ref C))(mk:nQ K C=true)(kc:gK K (.ref C)=true)(T:vf K C "__init__" qual st)(b:BodyOk CX0 P w K mg base qual st N k sp Cx.nox)(bi:Bq "__init__" qual st ps)(S:j4 N ps (bV st):=by walk_at "s")(l:F_ ps sp:=by walk_at "l"):Jv P w K mg base y C ps (k+1) sp:=by
 obtain⟨f,a,i,t⟩:=T;obtain⟨fd,F⟩:=t.fun_;exact⟨f,fd,F.ok S l fun cdv A outer s H vs Q E hr h=>b S.nd f cdv A outer s H vs Q E hr (Ca hr) h,cm,⟨mk,a,i,kc⟩,F.binds bi⟩
end
structure Zs(mg:Str->Option Value):Prop where
 all:mg "all"=none
 dict:mg "dict"=none
 divmod:mg "divmod"=none
 enumerate:mg "enumerate"=none
 len:mg "len"=none
 list:mg "list"=none
 range:mg "range"=none
 reversed:mg "reversed"=none
 sorted:mg "sorted"=none
 sum:mg "sum"=none
 tuple:mg "tuple"=none
 zip:mg "zip"=none
structure Cs(K:Za)(mg:Str->Option Value)(C Ck Cd a_STILL a_HUSH a_BLAME a_END:Addr):Prop where
 LETTERS:Gc mg "LETTERS" (.str "abcdefghijklmnopqrstuvwxyz")
 LONGEST_NAME:Gc mg "LONGEST_NAME" (.int 8)
 MOST_WORDS:Gc mg "MOST_WORDS" (.int 4)
 MOST_ROOMS:Gc mg "MOST_ROOMS" (.int 150)
 MOST_DOORS:Gc mg "MOST_DOORS" (.int 2000)
 DEEPEST:Gc mg "DEEPEST" (.int 4)
 MOST_WITHIN:Gc mg "MOST_WITHIN" (.int 8)
 MOST_TRIALS:Gc mg "MOST_TRIALS" (.int 1000)
 STILL:Gc mg "STILL" (.ref a_STILL)
 HUSH:Gc mg "HUSH" (.ref a_HUSH)
 BLAME:Gc mg "BLAME" (.ref a_BLAME)
 END:Gc mg "END" (.ref a_END)
 still:FY K a_STILL bb
 hush:FY K a_HUSH bF
 blm:FY K a_BLAME dF
 enD:FY K a_END fK
 mc:MC K C
 cm:mg "Machine"=some (.ref C)
 makes:nQ K C=true
 kc:gK K (.ref C)=true
 ksc:KC K Ck
 cmksc:mg "KnownSteps"=some (.ref Ck)
 makesksc:nQ K Ck=true
 kcksc:gK K (.ref Ck)=true
 dc:DC K Cd
 cmdc:mg "Made"=some (.ref Cd)
 makesdc:nQ K Cd=true
 kcdc:gK K (.ref Cd)=true
structure Ts(K:Za)(C Ck Cd:Addr):Prop where
 f_law_spread:gJ K "_law_spread" (d_ 59)
 f_law_open:gJ K "_law_open" (d_ 60)
 f_law_anew:gJ K "_law_anew" (d_ 61)
 f_law_take:gJ K "_law_take" (d_ 62)
 f_law_names:gJ K "_law_names" (d_ 63)
 f_law_put:gJ K "_law_put" (d_ 65)
 f_law_draw_doors:gJ K "_law_draw_doors" (d_ 66)
 f_law_model:gJ K "_law_model" (d_ 67)
 f_is_name:gJ K "is_name" (d_ 22)
 f_as_keys:gJ K "as_keys" (d_ 23)
 f_first_wrong_name:gJ K "first_wrong_name" (d_ 24)
 f_door_signs:gJ K "door_signs" (d_ 25)
 f_first_wrong_door:gJ K "first_wrong_door" (d_ 26)
 f_goals_by_start_and_sign:gJ K "goals_by_start_and_sign" (d_ 27)
 f_led_by_still:gJ K "led_by_still" (d_ 28)
 f_first_led_round:gJ K "first_led_round" (d_ 29)
 f_need_none:gJ K "need_none" (d_ 30)
 f_need_parts:gJ K "need_parts" (d_ 31)
 f_doors_by_start:gJ K "doors_by_start" (d_ 32)
 f_has_asks_alone:gJ K "has_asks_alone" (d_ 33)
 f_Machine___init__:vf K C "__init__" "Machine.__init__" (cI (d_ 34) 0)
 f_law_machine:gJ K "_law_machine" (d_ 74)
 f_Machine_rooms:vf K C "rooms" "Machine.rooms" (cI (d_ 34) 3)
 f_Machine_led_from:vf K C "led_from" "Machine.led_from" (cI (d_ 34) 8)
 f_with_still:gJ K "with_still" (d_ 10)
 f_Machine_goals:vf K C "goals" "Machine.goals" (cI (d_ 34) 7)
 f_Machine_is_quiet:vf K C "is_quiet" "Machine.is_quiet" (cI (d_ 34) 5)
 f_law_still_on:gJ K "_law_still_on" (d_ 64)
 f_Machine_asks:vf K C "asks" "Machine.asks" (cI (d_ 34) 1)
 f_Machine_says:vf K C "says" "Machine.says" (cI (d_ 34) 2)
 f_first_face:gJ K "first_face" (d_ 11)
 f_face_behind:gJ K "face_behind" (d_ 12)
 f_signs_in_order:gJ K "signs_in_order" (d_ 9)
 f_steps_at:gJ K "steps_at" (d_ 13)
 f_KnownSteps___init__:vf K Ck "__init__" "KnownSteps.__init__" (cI (d_ 14) 0)
 f_KnownSteps_steps_from:vf K Ck "steps_from" "KnownSteps.steps_from" (cI (d_ 14) 1)
 f_need_depth:gJ K "need_depth" (d_ 52)
 f_product:gJ K "product" (d_ 53)
 f_Made___init__:vf K Cd "__init__" "Made.__init__" (cI (d_ 55) 0)
 f_Made_steps_from:vf K Cd "steps_from" "Made.steps_from" (cI (d_ 55) 1)
 f_Made_kinds_at:vf K Cd "kinds_at" "Made.kinds_at" (cI (d_ 55) 2)
 f_Made_count_at:vf K Cd "count_at" "Made.count_at" (cI (d_ 55) 3)
 f_Made_count_of:vf K Cd "count_of" "Made.count_of" (cI (d_ 55) 4)
 f_trial_from:gJ K "trial_from" (d_ 54)
 f_Made_trial_of:vf K Cd "trial_of" "Made.trial_of" (cI (d_ 55) 6)
 f_Made_trial_at:vf K Cd "trial_at" "Made.trial_at" (cI (d_ 55) 5)
 f_made_by:gJ K "made_by" (d_ 56)
 f_is_tell:gJ K "is_tell" (d_ 40)
 f_is_wait:gJ K "is_wait" (d_ 41)
 f_says_and_parts:gJ K "says_and_parts" (d_ 42)
 f_signed_parts:gJ K "signed_parts" (d_ 43)
 f_parts_behind:gJ K "parts_behind" (d_ 44)
 f_with_ways:gJ K "with_ways" (d_ 45)
 f_has_says_in_order:gJ K "has_says_in_order" (d_ 46)
 f_is_so_by_itself:gJ K "is_so_by_itself" (d_ 47)
 f_checked_with_ways:gJ K "checked_with_ways" (d_ 48)
 f_need_trial:gJ K "need_trial" (d_ 49)
 f_Made_number_of_kind:vf K Cd "number_of_kind" "Made.number_of_kind" (cI (d_ 55) 8)
 f_Made_number_at:vf K Cd "number_at" "Made.number_at" (cI (d_ 55) 7)
 f_number_of:gJ K "number_of" (d_ 57)
 f_law_behind:gJ K "_law_behind" (d_ 68)
 f_law_begin:gJ K "_law_begin" (d_ 69)
 f_law_part_signs:gJ K "_law_part_signs" (d_ 70)
 f_law_after:gJ K "_law_after" (d_ 75)
 f_law_asked:gJ K "_law_asked" (d_ 76)
 f_law_times:gJ K "_law_times" (d_ 72)
 f_law_sizes:gJ K "_law_sizes" (d_ 71)
 f_law_count:gJ K "_law_count" (d_ 73)
 f_law_far:gJ K "_law_far" (d_ 77)
 f_law49:gJ K "law" (d_ 78)
section
variable{P:bO}{w:World}{K:Za}{mg:Str->Option Value}{base h:Heap}{C Ck Cd a_STILL a_HUSH a_BLAME a_END:Addr}
section
variable(P:bO)(w:World)(K:Za)(mg:Str->Option Value)(C Ck Cd a_STILL a_HUSH a_BLAME a_END:Addr)
abbrev j8:Prop:=∀base,ga P w K mg base "_law_spread" ["cell","at"] 1 lC
abbrev uK:Prop:=∀base,ga P w K mg base "_law_open" ["script"] 1 (r9 K)
abbrev nL:Prop:=∀base,ga P w K mg base "_law_anew" ["pen"] 1 xr
abbrev gv:Prop:=∀base,ga P w K mg base "_law_take" ["pen","many"] 2 gE
abbrev lr:Prop:=∀base,ga P w K mg base "_law_names" ["pen","many"] 3 oq
abbrev qD:Prop:=∀base,ga P w K mg base "_law_put" ["doors","door"] 1 tI
abbrev gA:Prop:=∀base,ga P w K mg base "_law_draw_doors" ["pen","asks","says","rooms","full"] 3 gF
abbrev re:Prop:=∀base,ga P w K mg base "_law_model" ["pen","most","full"] 4 ox
abbrev qE:Prop:=∀base,ga P w K mg base "is_name" ["text"] 1 sp_is_name
abbrev jG:Prop:=∀base,ga P w K mg base "as_keys" ["things"] 1 (sp_as_keys K)
abbrev fC:Prop:=∀base,ga P w K mg base "first_wrong_name" ["names","most","taken"] 2 (sp_first_wrong_name K)
abbrev j_:Prop:=∀base,ga P w K mg base "door_signs" ["asks","says"] 1 (sp_door_signs K)
abbrev fD:Prop:=∀base,ga P w K mg base "first_wrong_door" ["doors","rooms","signs"] 2 (sp_first_wrong_door K)
abbrev cQ:Prop:=∀base,ga P w K mg base "goals_by_start_and_sign" ["doors"] 1 oy
abbrev iU:Prop:=∀base,ga P w K mg base "led_by_still" ["goals","room"] 1 xn
abbrev f8:Prop:=∀base,ga P w K mg base "first_led_round" ["rooms","led"] 1 sp_first_led_round
abbrev ja:Prop:=∀base,ga P w K mg base "need_none" ["part","number"] 1 sp_need_none
abbrev j7:Prop:=∀base,ga P w K mg base "need_parts" ["asks","says","rooms","doors"] 3 sp_need_parts
abbrev gC:Prop:=∀base,ga P w K mg base "doors_by_start" ["rooms","doors"] 1 sp_doors_by_start
abbrev gB:Prop:=∀base,ga P w K mg base "has_asks_alone" ["doors"] 1 sp_has_asks_alone
abbrev qF:Prop:=∀base,Jv P w K mg base "Machine" C ["self","asks","says","rooms","doors"] 4 (sf C)
abbrev mD:Prop:=∀base,ga P w K mg base "_law_machine" ["told"] 6 (jL C)
abbrev fz:Prop:=∀base,mj P w K mg base C "rooms" ["self"] 1 (kN C)
abbrev fE:Prop:=∀base,mj P w K mg base C "led_from" ["self","room"] 1 (i6 C)
abbrev im:Prop:=∀base,ga P w K mg base "with_still" ["M","rooms"] 2 (sp_with_still C)
abbrev h9:Prop:=∀base,mj P w K mg base C "goals" ["self","room","sign"] 1 (jq C)
abbrev fF:Prop:=∀base,mj P w K mg base C "is_quiet" ["self","room"] 1 (i7 C)
abbrev fZ:Prop:=∀base,ga P w K mg base "_law_still_on" ["doors","rooms"] 1 (gQ K)
abbrev f_:Prop:=∀base,mj P w K mg base C "asks" ["self"] 1 (oB C)
abbrev eF:Prop:=∀base,mj P w K mg base C "says" ["self"] 1 (lD C)
abbrev ip:Prop:=∀base,ga P w K mg base "first_face" ["M"] 3 (bS C)
abbrev jh:Prop:=∀base,ga P w K mg base "face_behind" ["M","face","sign"] 3 (sh K C)
abbrev gq:Prop:=∀base,ga P w K mg base "signs_in_order" ["M"] 2 (xm C a_HUSH)
abbrev nK:Prop:=∀base,ga P w K mg base "steps_at" ["M","face"] 4 (jJ C)
abbrev ka:Prop:=∀base,Jv P w K mg base "KnownSteps" Ck ["self","M"] 1 (lH Ck)
abbrev dq:Prop:=∀base,mj P w K mg base Ck "steps_from" ["self","face"] 5 (lI C Ck)
abbrev io:Prop:=∀base,ga P w K mg base "need_depth" ["d"] 1 ck
abbrev lU:Prop:=∀base,ga P w K mg base "product" ["numbers"] 1 sp_product
abbrev yt:Prop:=∀base,Jv P w K mg base "Made" Cd ["self","M"] 3 (jr C Ck Cd)
abbrev bW:Prop:=∀base,mj P w K mg base Cd "steps_from" ["self","face"] 6 (gg C Ck Cd)
abbrev dP:Prop:=∀base,mj P w K mg base Cd "kinds_at" ["self","face"] 7 (ir K C Ck Cd)
abbrev cR:Prop:=∀base,mj P w K mg base Cd "count_at" ["self","face","d"] 16 (fM C Ck Cd 4)
abbrev fx:Prop:=∀base,mj P w K mg base Cd "count_of" ["self","face","d","signs"] 17 (gR K C Ck Cd 4)
abbrev j5:Prop:=∀base,ga P w K mg base "trial_from" ["signs","parts"] 1 (lA K)
abbrev h7:Prop:=∀base,mj P w K mg base Cd "trial_at" ["self","face","d","number"] 26 (jK K C Ck Cd 4)
abbrev v9:Prop:=∀base,ga P w K mg base "made_by" ["M","d","number"] 27 (lG K C)
abbrev lW:Prop:=∀base,ga P w K mg base "is_tell" ["trial"] 1 (jN K 4 "tell")
abbrev lV:Prop:=∀base,ga P w K mg base "is_wait" ["trial"] 1 (jN K 3 "wait")
abbrev gu:Prop:=∀base,ga P w K mg base "says_and_parts" ["pairs"] 1 (ig K)
abbrev fX:Prop:=∀base,ga P w K mg base "signed_parts" ["trial"] 2 (iq K)
abbrev iT:Prop:=∀base,ga P w K mg base "parts_behind" ["way","story","trial"] 3 (lE K)
abbrev ln:Prop:=∀base,ga P w K mg base "with_ways" ["trial"] 4 (i5 K)
abbrev eW:Prop:=∀base,ga P w K mg base "has_says_in_order" ["M","pairs"] 2 (jO K C)
abbrev f6:Prop:=∀base,ga P w K mg base "is_so_by_itself" ["M","trial"] 3 (r_ K C)
abbrev eX:Prop:=∀base,ga P w K mg base "checked_with_ways" ["M","trial"] 5 (jP K C)
abbrev j6:Prop:=∀base,ga P w K mg base "need_trial" ["M","trial"] 6 (lF K C)
abbrev gD:Prop:=∀base,mj P w K mg base Cd "number_at" ["self","face","d","trial"] 26 (m9 K C Ck Cd 4)
abbrev rc:Prop:=∀base,ga P w K mg base "number_of" ["M","d","trial"] 27 (oo K C)
abbrev j9:Prop:=∀base,ga P w K mg base "_law_behind" ["told","face","sign"] 2 (xp K)
abbrev rg:Prop:=∀base,ga P w K mg base "_law_begin" ["told"] 2 oA
abbrev gx:Prop:=∀base,ga P w K mg base "_law_part_signs" ["told","ask"] 1 on
abbrev jb:Prop:=∀base,ga P w K mg base "_law_after" ["told","known","face","sign"] 3 (kP K)
abbrev lu:Prop:=∀base,ga P w K mg base "_law_asked" ["told","known","face"] 4 (oC K)
abbrev lp:Prop:=∀base,ga P w K mg base "_law_times" ["numbers"] 1 sp_product
abbrev rf:Prop:=∀base,ga P w K mg base "_law_count" ["told","known","face","deep"] 13 (jM K 4)
abbrev v_:Prop:=∀base,ga P w K mg base "_law_far" ["pen","many"] 3 xo
end
section
variable(X:K.In h)(G:h.Ns bH mg)(z:Zs mg)(c:Cs K mg C Ck Cd a_STILL a_HUSH a_BLAME a_END)(T:Ts K C Ck Cd)
include X G z c T
theorem uT:j8 P w K mg:=fun base=>dG X G T.f_law_spread (fun S _ _ _ _ _ _ _ _ _ hr hu h=>bK (C1 (K:=K) h) (ac (bG (jn Fc (pv 0) (aB Fa ag ag)) (af (aq (pv 0))) aH) (ac (qs 2 S (aB fR (aB cg (aB cg (aB iK (aB fR (pv 0) ag) ag) (aB iK (pv 1) ag)) ag) ag)) (ac (qs 3 S (aB fR (aB cg (aB cg (aB iK (pv 2) (pv 2)) (aB iK (pv 1) ag)) (aB fR (pv 0) ag)) ag)) (ac (qs 4 S (aB fR (aB cg (aB cg (aB iK (pv 3) (pv 3)) (aB iK (pv 2) ag)) ag) ag)) (af (aq (aB cg (aB iK (aB cg (aB iK (pv 2) ag) (pv 3)) ag) (pv 4))))))))) (by walk_at "b")
theorem yV:uK P w K mg:=fun base=>dG X G T.f_law_open (fun S _ _ _ _ _ _ _ _ _ hr hu h=>bK (GG h) (ac (qs 1 S (qL rfl z.list (a1 (cU fN (pv 0) fo (c9 ag))))) (ac (bI bp rfl (lK rfl z.enumerate (a1 (cU fN (pv 0) (c9 ag) (c9 ag)))) (dA rfl (ay (gn 2 S) (ay (gn 3 S) cD))) (af (jS (aB cg (xl (pv 1) (aB fR (pv 2) ag)) (pv 3)) (tT (pv 1) (aB fR (pv 2) ag) kQ)))) (af (aq (bh (a3 (pv 1) ag ag))))))) (by walk_at "b")
theorem yW:nL P w K mg:=fun base=>dG X G T.f_law_anew (fun S _ _ _ _ _ _ _ _ _ hr hu h=>bK (GQ (K:=K) h) (ac (jS ag (tT (pv 0) ag kQ)) (af (aq (pv 0))))) (by walk_at "b")
theorem yU(D_law_spread:j8 P w K mg):gv P w K mg:=fun base=>dG X G T.f_law_take (fun S _ _ _ _ _ _ _ _ _ hr hu h=>bK (GD h) (ac (bG (jn zo (xl (pv 0) ag) (pv 1)) (ac (qs 2 S (xl (pv 0) ag)) (ac (qs 3 S ag) (ac (bG (jn zo (pv 2) (ql z.len (a1 (xl (pv 0) ag)))) (af (qs 3 S (xl (xl (pv 0) ag) (pv 2)))) (af (bG (jn qQ (ql z.len (a1 (xl (pv 0) ag))) ag) (af (qs 3 S (aB fR (xl (xl (pv 0) ag) (aB fR (aB cg (aB iK (pv 2) ag) ag) (ql z.len (a1 (xl (pv 0) ag))))) (aB cg (aB Fa ag ag) (pv 2))))) aH))) (ac (jS (aB cg (pv 2) ag) (tT (pv 0) ag kQ)) (af (jS (qf hr (D_law_spread base) (a2 (pv 3) (pv 2))) (tT (pv 0) ag kQ))))))) aH) (ac (qs 4 S (aB fR (xl (pv 0) ag) (pv 1))) (ac (jS (aB B4 (xl (pv 0) ag) (pv 1)) (tT (pv 0) ag kQ)) (af (aq (pv 4))))))) (by walk_at "b")
theorem xc(D_law_take:gv P w K mg):lr P w K mg:=fun base=>dG X G T.f_law_names (fun S _ _ _ _ _ _ _ _ _ hr hu h=>bK (EC h) (ac (qs 2 S bJ) (ac (qs 3 S (iJ PySem.F.plainAttrs_str PySem.F.slot_str_join PySem.F.type_str_join Hf bJ (a1 (qc (iu rfl z.range (a1 ag)) (aJ (by decide)) fun _ _ _ _ _ _=>⟨gc 0,bU,xs' (pv 1) (qf hr (D_law_take base) (a2 (pv 2) ag))⟩)))) (ac (qs 4 S (qf hr (D_law_take base) (a2 (pv 0) ag))) (ac (qs 5 S (qf hr (D_law_take base) (a2 (pv 0) ag))) (ac (qs 6 S (qf hr (D_law_take base) (a2 (pv 0) ag))) (ac (qs 7 S (bh cP)) (ac (bI bp rfl (iu rfl z.range (a1 (pv 1))) (gn 8 S) (ac (qs 9 S (xs' (pv 2) (aB fR (aB cg (pv 5) (aB iK ag (pv 8))) ag))) (ac (qs 10 S (cU AA (pv 3) fo (c9 (aB fR (aB cg (pv 6) (aB iK (pv 8) (aB fR (pv 4) ag))) ag)))) (ac (qs 11 S (xl (bh (a3 ag (ql z.len (a1 (pv 10))) (aB B4 (ql z.len (a1 (pv 10))) ag))) (pv 4))) (af (bt (iJ eP g7 g6 cF (pv 7) (a1 (aB tZ (aB tZ (cU AA (pv 10) fo (c9 (pv 11))) (pv 9)) (cU AA (pv 10) (c9 (pv 11)) fo)))))))))) (af (aq (pv 7))))))))))) (by walk_at "b")
theorem As:qD P w K mg:=fun base=>dG X G T.f_law_put (fun S _ _ _ _ _ _ _ _ _ hr hu h=>bK (Ik h) (af (bG (Ig (lL hu) (pv 1) (pv 0)) (af (bt (iJ eP g7 g6 cF (pv 0) (a1 (pv 1))))) aH))) (by walk_at "b")
theorem oh(D_law_take:gv P w K mg)(D_law_put:qD P w K mg):gA P w K mg:=fun base=>dG X G T.f_law_draw_doors (fun S _ _ _ _ _ _ _ _ _ hr hu h=>bK (u6 h) (ac (qs 5 S (bh cP)) (ac (qs 6 S (qf hr (D_law_take base) (a2 (pv 0) ag))) (ac (bI bp rfl (lK rfl z.enumerate (a1 (pv 3))) (dA rfl (ay (gn 7 S) (ay (gn 8 S) cD))) (ac (bI bp rfl (iu rfl z.range (a1 (xl (bh (bu ag (a3 ag ag ag))) (qf hr (D_law_take base) (a2 (pv 0) ag))))) (gn 9 S) (ac (qs 10 S (aK (a2 bJ (xl (pv 2) (qf hr (D_law_take base) (a2 (pv 0) (ql z.len (a1 (pv 2))))))))) (af (bt (qf hr (D_law_put base) (a2 (pv 5) (aK (a3 (pv 8) (pv 10) (xl (pv 3) (qf hr (D_law_take base) (a2 (pv 0) (ql z.len (a1 (pv 3)))))))))))))) (ac (bI bp rfl (aQ (pv 1)) (gn 11 S) (af (bI bp rfl (iu rfl z.range (a1 (xl (bh (bu (pv 4) (a3 ag ag ag))) (qf hr (D_law_take base) (a2 (pv 0) ag))))) (gn 9 S) (af (bt (qf hr (D_law_put base) (a2 (pv 5) (aK (a3 (pv 8) (aK (a2 bJ (pv 11))) (xl (pv 3) (qf hr (D_law_take base) (a2 (pv 0) (ql z.len (a1 (pv 3))))))))))))))) (ac (qs 12 S (xl (bh (a2 (cU fN (pv 3) (c9 (aB cg (pv 7) ag)) fo) (cU fN (pv 3) fo (c9 (pv 7))))) (pv 6))) (af (bG (PW.pt (p7 (jn (Fb hu) (pv 12) (bh cP)) (oO (jn gS (qf hr (D_law_take base) (a2 (pv 0) ag)) ag)))) (af (bt (qf hr (D_law_put base) (a2 (pv 5) (aK (a3 (pv 8) (aK (a1 bJ)) (xq (pv 12) (qf hr (D_law_take base) (a2 (pv 0) (ql z.len (a1 (pv 12)))))))))))) aH)))))) (af (aq (pv 5))))))) (by walk_at "b")
theorem xf(D_law_anew:nL P w K mg)(D_law_take:gv P w K mg)(D_law_names:lr P w K mg)(D_law_draw_doors:gA P w K mg):re P w K mg:=fun base=>dG X G T.f_law_model (fun S _ _ _ _ _ _ _ _ _ hr hu h=>bK (EE h) (ac (bt (qf hr (D_law_anew base) (a1 (pv 0)))) (ac (qs 3 S (qf hr (D_law_names base) (a2 (pv 0) ag))) (ac (qs 4 S (cU fN (pv 3) fo (c9 (aB cg ag (xl (bh (bu ag (bu ag (bu ag (a3 ag ag ag))))) (qf hr (D_law_take base) (a2 (pv 0) ag))))))) (ac (qs 5 S (cU fN (pv 3) (c9 ag) (c9 (aB cg ag (xl (bh (bu ag (bu ag (bu ag (a3 ag ag ag))))) (qf hr (D_law_take base) (a2 (pv 0) ag))))))) (ac (qs 6 S (qf hr (D_law_names base) (a2 (pv 0) (aB cg ag (qf hr (D_law_take base) (a2 (pv 0) (pv 1))))))) (ac (qs 7 S (qf hr (D_law_draw_doors base) (bu (pv 0) (bu (pv 4) (a3 (pv 5) (pv 6) (pv 2)))))) (af (aq (aK (bu (pv 4) (a3 (pv 5) (pv 6) (pv 7))))))))))))) (by walk_at "b")
theorem Aw:qE P w K mg:=fun base=>dG X G T.f_is_name (fun S _ _ _ _ _ _ _ _ _ hr hu h=>bK (AF h) (af (aq (tW (Ec BZ (pv 0) bJ) (tW (Ec Jj (ql z.len (a1 (pv 0))) (fh rfl c.LONGEST_NAME)) (tU (qB (qY rfl) z.all boot_all (a1 (qc (Iv (pv 0)) (aJ (by decide)) fun _ _ _ _ _ _=>⟨gc 0,bU,eci AO (pv 0) (fh rfl c.LETTERS)⟩))))))))) (by walk_at "b")
theorem Ax:jG P w K mg:=fun base=>dG X G T.f_as_keys (fun S _ _ _ _ _ _ _ _ _ hr hu h=>bK (AI h) (ac (qs 1 S oQ) (ac (bI bp rfl (aQ (pv 0)) (gn 2 S) (af (fP hu (pv 1) (pv 2) mz rfl))) (af (aq (pv 1)))))) (by walk_at "b")
theorem l7(D_is_name:qE P w K mg)(D_as_keys:jG P w K mg):fC P w K mg:=fun base=>dG X G T.f_first_wrong_name (fun S _ _ _ _ _ _ _ _ _ hr hu h=>bK (l_ h) (ac (bG (jn gS (ql z.len (a1 (pv 0))) ag) (af (aq ag)) aH) (ac (qs 3 S (qf hr (D_as_keys base) (a1 (pv 2)))) (ac (bI bp rfl (lK rfl z.enumerate (a1 (pv 0))) (dA rfl (ay (gn 4 S) (ay (gn 5 S) cD))) (ac (bG (PW.pt (kT (jn gS (pv 4) (pv 1)) (kT (cX (tX hu (pv 5) (pv 3))) (jR (ET (kU (qf hr (D_is_name base) (a1 (pv 5))))))))) (af (aq (pv 4))) aH) (af (fP hu (pv 3) (pv 5) mz rfl)))) (af (aq jf)))))) (by walk_at "b")
theorem uW:j_ P w K mg:=fun base=>dG X G T.f_door_signs (fun S _ _ _ _ _ _ _ _ _ hr hu h=>bK (u7 c.still h) (af (aq (aB gk (aB gk (qc (aQ (pv 0)) (aJ (by decide)) fun _ _ _ _ _ _=>⟨gc 0,bU,aK (a2 bJ (pv 0))⟩) (qc (aQ (pv 1)) (aJ (by decide)) fun _ _ _ _ _ _=>⟨gc 0,bU,aK (a2 bJ (pv 0))⟩)) (bh (a1 (fh rfl c.STILL))))))) (by walk_at "b")
theorem l9(D_as_keys:jG P w K mg):fD P w K mg:=fun base=>dG X G T.f_first_wrong_door (fun S _ _ _ _ _ _ _ _ _ hr hu h=>bK (md h) (ac (qs 3 S (qf hr (D_as_keys base) (a1 (pv 1)))) (ac (qs 4 S jt) (ac (bI bp rfl (lK rfl z.enumerate (a1 (pv 0))) (dA rfl (ay (gn 5 S) (ay (gn 6 S) cD))) (ac (bG (PW.pt (kT (jn gS (pv 5) (fh rfl c.MOST_DOORS)) (jR (cX (tX hu (pv 6) (pv 4)))))) (af (aq (pv 5))) aH) (ac (bG (PW.pt (kT (cX (fI hu (xq (pv 6) ag) (pv 3))) (kT (Ig (lL hu) (xq (pv 6) ag) (pv 2)) (jR (cX (fI hu (xq (pv 6) ag) (pv 3))))))) (af (aq (pv 5))) aH) (af (fP hu (pv 4) (pv 6) mz rfl))))) (af (aq jf)))))) (by walk_at "b")
theorem iE:cQ P w K mg:=fun base=>dG X G T.f_goals_by_start_and_sign (fun S _ _ _ _ _ _ _ _ _ hr hu h=>bK (iF h) (ac (qs 1 S jt) (ac (bI bp rfl (aQ (pv 0)) (dA rfl (ay (gn 2 S) (ay (gn 3 S) (ay (gn 4 S) cD)))) (af (bt (iJ eP g7 g6 cF (iJ PySem.F.plainAttrs_dict PySem.F.slot_dict_setdefault PySem.F.type_dict_setdefault (Dn hu) (pv 1) (a2 (aK (a2 (pv 2) (pv 3))) (bh cP))) (a1 (pv 4)))))) (af (aq (pv 1)))))) (by walk_at "b")
theorem rG:iU P w K mg:=fun base=>dG X G T.f_led_by_still (fun S _ _ _ _ _ _ _ _ _ hr hu h=>bK (rJ c.still h) (ac (qs 2 S oQ) (ac (qs 3 S (bh (a1 (pv 1)))) (ac (oP bp (jn qQ (ql z.len (a1 (pv 3))) ag) (ac (qs 4 S (AN eP PySem.F.slot_list_pop PySem.F.type_list_pop Fn (pv 3))) (af (bI bp rfl (Iw (tV hu (pv 0) (aK (a2 (pv 4) (fh rfl c.STILL))) (aK cP) ⟨rfl,rfl,rfl,rfl⟩)) (gn 5 S) (af (bG (cX (fI hu (pv 5) (pv 2))) (ac (fP hu (pv 2) (pv 5) mz rfl) (af (bt (iJ eP g7 g6 cF (pv 3) (a1 (pv 5)))))) aH)))))) (af (aq (pv 2))))))) (by walk_at "b")
theorem mY:f8 P w K mg:=fun base=>dG X G T.f_first_led_round (fun S _ _ _ _ _ _ _ _ _ hr hu h=>bK (ng h) (ac (bI bp rfl (lK rfl z.enumerate (a1 (pv 0))) (dA rfl (ay (gn 2 S) (ay (gn 3 S) cD))) (af (bG (cX (tX hu (pv 3) (jT hu (pv 1) (pv 3) (fun _ _=>rfl)))) (af (aq (pv 2))) aH))) (af (aq jf)))) (by walk_at "b")
theorem xa:ja P w K mg:=fun base=>dG X G T.f_need_none (fun S _ _ _ _ _ _ _ _ _ hr hu h=>bK (xx (K:=K) h) (af (bG (cX (BX (pv 1))) (af (kW)) aH))) (by walk_at "b")
theorem uR(D_first_wrong_name:fC P w K mg)(D_door_signs:j_ P w K mg)(D_first_wrong_door:fD P w K mg)(D_need_none:ja P w K mg):j7 P w K mg:=fun base=>dG X G T.f_need_parts (fun S _ _ _ _ _ _ _ _ _ hr hu h=>bK (u3 (K:=K) h) (ac (bt (qf hr (D_need_none base) (a2 bJ (qf hr (D_first_wrong_name base) (a3 (pv 0) (fh rfl c.MOST_WORDS) (bh cP)))))) (ac (bt (qf hr (D_need_none base) (a2 bJ (qf hr (D_first_wrong_name base) (a3 (pv 1) (fh rfl c.MOST_WORDS) (pv 0)))))) (ac (bt (qf hr (D_need_none base) (a2 bJ (qf hr (D_first_wrong_name base) (a3 (pv 2) (fh rfl c.MOST_ROOMS) (bh cP)))))) (af (bt (qf hr (D_need_none base) (a2 bJ (qf hr (D_first_wrong_door base) (a3 (pv 3) (pv 2) (qf hr (D_door_signs base) (a2 (pv 0) (pv 1))))))))))))) (by walk_at "b")
theorem om:gC P w K mg:=fun base=>dG X G T.f_doors_by_start (fun S _ _ _ _ _ _ _ _ _ hr hu h=>bK (oN h) (ac (qs 2 S oQ) (ac (bI bp rfl (aQ (pv 0)) (gn 3 S) (af (fP hu (pv 2) (pv 3) (bh cP) rfl))) (ac (bI bp rfl (aQ (pv 1)) (gn 4 S) (af (bt (iJ eP g7 g6 cF (jT hu (pv 2) (xq (pv 4) ag) (fun _ _=>rfl)) (a1 (pv 4)))))) (af (aq (pv 2))))))) (by walk_at "b")
theorem oj:gB P w K mg:=fun base=>dG X G T.f_has_asks_alone (fun S _ _ _ _ _ _ _ _ _ hr hu h=>bK (oM h) (af (aq (qB (qY rfl) z.all boot_all (a1 (qc (aQ (pv 0)) (aJ (by decide)) fun _ _ _ _ _ _=>⟨gc 0,bU,Ec gS (xq (xq (pv 0) ag) ag) bJ⟩)))))) (by walk_at "b")
theorem Ay(D_as_keys:jG P w K mg)(D_goals_by_start_and_sign:cQ P w K mg)(D_led_by_still:iU P w K mg)(D_first_led_round:f8 P w K mg)(D_need_none:ja P w K mg)(D_need_parts:j7 P w K mg)(D_doors_by_start:gC P w K mg)(D_has_asks_alone:gB P w K mg):qF P w K mg C:=fun base=>dN c.cm c.makes c.kc T.f_Machine___init__ (fun S _ _ _ _ _ _ _ _ _ hr hu h=>bK (GL c.mc h) (ac (bt (qf hr (D_need_parts base) (bu (pv 1) (a3 (pv 2) (pv 3) (pv 4))))) (ac (gj (pv 0) (qL rfl z.list (a1 (pv 1))) rfl) (ac (gj (pv 0) (qL rfl z.list (a1 (pv 2))) rfl) (ac (gj (pv 0) (qL rfl z.list (a1 (pv 3))) rfl) (ac (gj (pv 0) (qL rfl z.list (a1 (pv 4))) rfl) (ac (gj (pv 0) (qf hr (D_doors_by_start base) (a2 (pv 3) (pv 4))) rfl) (ac (gj (pv 0) (qf hr (D_as_keys base) (a1 (qc (aQ (pv 3)) (aJ (by decide)) fun _ _ _ _ _ _=>⟨gc 0,gG (kU (qf hr (D_has_asks_alone base) (a1 (jT hu (dC (pv 1) rfl) (pv 0) (fun _ _=>rfl))))),pv 0⟩))) rfl) (ac (gj (pv 0) (qf hr (D_goals_by_start_and_sign base) (a1 (pv 4))) rfl) (ac (gj (pv 0) (eJ (x_ rfl) rfl z.dict Bh (a1 (qc (aQ (pv 3)) (aJ (by decide)) fun _ _ _ _ _ _=>⟨gc 0,bU,aK (a2 (pv 0) (qf hr (D_led_by_still base) (a2 (dC (pv 1) rfl) (pv 0))))⟩))) rfl) (af (bt (qf hr (D_need_none base) (a2 bJ (qf hr (D_first_led_round base) (a2 (pv 3) (dC (pv 0) rfl))))))))))))))))) (by walk_at "b")
theorem tE(D_Machine:qF P w K mg C):mD P w K mg C:=fun base=>dG X G T.f_law_machine (fun S _ _ _ _ _ _ _ _ _ hr hu h=>bK (AE h) (af (aq (xA (D_Machine base) (hr.mono (by decide)) rfl (bu (qL rfl z.list (a1 (xq (pv 0) ag))) (a3 (qL rfl z.list (a1 (xq (pv 0) ag))) (qL rfl z.list (a1 (xq (pv 0) ag))) (qL rfl z.list (a1 (xq (pv 0) ag))))))))) (by walk_at "b")
theorem pX:fz P w K mg C:=fun base=>dM c.mc.cls T.f_Machine_rooms (fun S _ _ _ _ _ _ _ _ _ hr hu h=>bK (Ez c.mc h) (af (aq (qL rfl z.list (a1 (dC (pv 0) rfl)))))) (by walk_at "b")
theorem lZ:fE P w K mg C:=fun base=>dM c.mc.cls T.f_Machine_led_from (fun S _ _ _ _ _ _ _ _ _ hr hu h=>bK (y_ c.mc h) (af (aq (qL rfl z.list (a1 (tV hu (dC (pv 0) rfl) (pv 1) (aK cP) ⟨rfl,rfl,rfl,rfl⟩)))))) (by walk_at "b")
theorem uO(M_Machine_rooms:fz P w K mg C)(M_Machine_led_from:fE P w K mg C):im P w K mg C:=fun base=>dG X G T.f_with_still (fun S _ _ _ _ _ _ _ _ _ hr hu h=>bK (uZ h) (ac (qs 2 S oQ) (ac (bI bp rfl (aQ (pv 1)) (gn 3 S) (af (bG (cX (fI hu (pv 3) (pv 2))) (ac (fP hu (pv 2) (pv 3) mz rfl) (af (bI bp rfl (aQ (qm hr (M_Machine_led_from base) (pv 0) (a1 (pv 3)))) (gn 4 S) (af (fP hu (pv 2) (pv 4) mz rfl))))) aH))) (af (aq (eJ cY rfl z.tuple eD (a1 (qc (aQ (Ir hr (M_Machine_rooms base) (pv 0))) (aJ (by decide)) fun _ _ _ _ _ _=>⟨gc 0,gG (cX (tX hu (pv 0) (pv 1))),pv 0⟩)))))))) (by walk_at "b")
theorem pY:h9 P w K mg C:=fun base=>dM c.mc.cls T.f_Machine_goals (fun S _ _ _ _ _ _ _ _ _ hr hu h=>bK (C6 c.mc h) (af (aq (qL rfl z.list (a1 (tV hu (dC (pv 0) rfl) (aK (a2 (pv 1) (pv 2))) (aK cP) ⟨rfl,rfl,rfl,rfl⟩)))))) (by walk_at "b")
theorem l6:fF P w K mg C:=fun base=>dM c.mc.cls T.f_Machine_is_quiet (fun S _ _ _ _ _ _ _ _ _ hr hu h=>bK (zb c.mc h) (af (aq (Iz (tX hu (pv 1) (dC (pv 0) rfl)))))) (by walk_at "b")
theorem rH:fZ P w K mg:=fun base=>dG X G T.f_law_still_on (fun S _ _ _ _ _ _ _ _ _ hr hu h=>bK (y9 h) (ac (qs 2 S (qL rfl z.list (a1 (pv 1)))) (ac (qs 3 S ag) (ac (oP bp (jn zo (pv 3) (ql z.len (a1 (pv 2)))) (ac (bI bp rfl (aQ (pv 0)) (dA rfl (ay (gn 4 S) (ay (gn 5 S) (ay (gn 6 S) cD)))) (af (bG (PW.pt (p7 (jn (jV hu) (pv 4) (xq (pv 2) (pv 3))) (p7 (jn (jV hu) (pv 5) (aK (a1 bJ))) (oO (Ig (lL hu) (pv 6) (pv 2)))))) (af (bt (iJ eP g7 g6 cF (pv 2) (a1 (pv 6))))) aH))) (af (qs 3 S (aB cg (pv 3) ag))))) (af (aq (pv 2))))))) (by walk_at "b")
theorem rD:f_ P w K mg C:=fun base=>dM c.mc.cls T.f_Machine_asks (fun S _ _ _ _ _ _ _ _ _ hr hu h=>bK (GP c.mc h) (af (aq (qL rfl z.list (a1 (dC (pv 0) rfl)))))) (by walk_at "b")
theorem rC:eF P w K mg C:=fun base=>dM c.mc.cls T.f_Machine_says (fun S _ _ _ _ _ _ _ _ _ hr hu h=>bK (GF c.mc h) (af (aq (qL rfl z.list (a1 (dC (pv 0) rfl)))))) (by walk_at "b")
theorem uV(M_Machine_rooms:fz P w K mg C)(D_with_still:im P w K mg C):ip P w K mg C:=fun base=>dG X G T.f_first_face (fun S _ _ _ _ _ _ _ _ _ hr hu h=>bK (u5 h) (af (aq (qf hr (D_with_still base) (a2 (pv 0) (cU fN (Ir hr (M_Machine_rooms base) (pv 0)) fo (c9 ag))))))) (by walk_at "b")
theorem tF(D_with_still:im P w K mg C)(M_Machine_goals:h9 P w K mg C)(M_Machine_is_quiet:fF P w K mg C):jh P w K mg C:=fun base=>dG X G T.f_face_behind (fun S _ _ _ _ _ _ _ _ _ hr hu h=>bK (GN c.hush h) (ac (bG (jn (jV hu) (pv 2) (fh rfl c.HUSH)) (af (aq (eJ cY rfl z.tuple eD (a1 (qc (tS (pv 1)) (aJ (by decide)) fun _ _ _ _ _ _=>⟨gc 0,gG (kU (qm hr (M_Machine_is_quiet base) (pv 1) (a1 (pv 0)))),pv 0⟩))))) aH) (ac (qs 3 S (bh cP)) (ac (bI bp rfl (tS (pv 1)) (gn 4 S) (af (bt (iJ eP PySem.F.slot_list_extend PySem.F.type_list_extend Do (pv 3) (a1 (qm hr (M_Machine_goals base) (pv 0) (a2 (pv 4) (pv 2)))))))) (af (aq (qf hr (D_with_still base) (a2 (pv 0) (pv 3))))))))) (by walk_at "b")
theorem n6(M_Machine_asks:f_ P w K mg C)(M_Machine_says:eF P w K mg C):gq P w K mg C a_HUSH:=fun base=>dG X G T.f_signs_in_order (fun S _ _ _ _ _ _ _ _ _ hr hu h=>bK (Ij h) (af (aq (aB gk (aB gk (qc (aQ (Ir hr (M_Machine_asks base) (pv 0))) (aJ (by decide)) fun _ _ _ _ _ _=>⟨gc 0,bU,aK (a2 bJ (pv 0))⟩) (qc (aQ (Ir hr (M_Machine_says base) (pv 0))) (aJ (by decide)) fun _ _ _ _ _ _=>⟨gc 0,bU,aK (a2 bJ (pv 0))⟩)) (bh (a1 (fh rfl c.HUSH))))))) (by walk_at "b")
theorem yT(D_face_behind:jh P w K mg C)(D_signs_in_order:gq P w K mg C a_HUSH):nK P w K mg C:=fun base=>dG X G T.f_steps_at (fun S _ _ _ _ _ _ _ _ _ hr hu h=>bK (AD c.hush h) (ac (qs 2 S jt) (ac (bI bp rfl (aQ (qf hr (D_signs_in_order base) (a1 (pv 0)))) (gn 3 S) (ac (qs 4 S (qf hr (D_face_behind base) (a3 (pv 0) (pv 1) (pv 3)))) (af (bG (jn qQ (ql z.len (a1 (pv 4))) ag) (af (EV hu (pv 2) (pv 3) (pv 4) rfl)) aH)))) (af (aq (pv 2)))))) (by walk_at "b")
theorem uX:ka P w K mg Ck:=fun base=>dN c.cmksc c.makesksc c.kcksc T.f_KnownSteps___init__ (fun S _ _ _ _ _ _ _ _ _ hr hu h=>bK (C_ c.ksc h) (ac (gj (pv 0) (pv 1) rfl) (af (gj (pv 0) jt rfl)))) (by walk_at "b")
theorem je(D_steps_at:nK P w K mg C):dq P w K mg C Ck:=fun base=>dM c.ksc.cls T.f_KnownSteps_steps_from (fun S _ _ _ _ _ _ _ _ _ hr hu h=>bK (Db c.ksc h) (ac (bG (cX (fI hu (pv 1) (dC (pv 0) rfl))) (af (fP hu (dC (pv 0) rfl) (pv 1) (qf hr (D_steps_at base) (a2 (dC (pv 0) rfl) (pv 1))) rfl)) aH) (af (aq (jT hu (dC (pv 0) rfl) (pv 1) (fun _ _=>rfl)))))) (by walk_at "b")
theorem uS:io P w K mg:=fun base=>dG X G T.f_need_depth (fun S _ _ _ _ _ _ _ _ _ hr hu h=>bK (u4 (K:=K) h) (af (bG (PW.pt (kT (jn zo (pv 0) ag) (jR (jn qQ (pv 0) (fh rfl c.DEEPEST))))) (af (kW)) aH))) (by walk_at "b")
theorem Aq:lU P w K mg:=fun base=>dG X G T.f_product (fun S _ _ _ _ _ _ _ _ _ hr hu h=>bK (tK h) (ac (qs 1 S ag) (ac (bI bp rfl (aQ (pv 0)) (gn 2 S) (af (qs 1 S (aB sk (pv 1) (pv 2))))) (af (aq (pv 1)))))) (by walk_at "b")
theorem Gp(M_Machine_says:eF P w K mg C)(D_KnownSteps:ka P w K mg Ck):yt P w K mg C Ck Cd:=fun base=>dN c.cmdc c.makesdc c.kcdc T.f_Made___init__ (fun S _ _ _ _ _ _ _ _ _ hr hu h=>bK (C7 c.dc h) (ac (gj (pv 0) (qc (aQ (Ir hr (M_Machine_says base) (pv 1))) (aJ (by decide)) fun _ _ _ _ _ _=>⟨gc 0,bU,aK (a2 bJ (pv 0))⟩) rfl) (ac (gj (pv 0) (xA (D_KnownSteps base) (hr.mono (by decide)) rfl (a1 (pv 1))) rfl) (af (gj (pv 0) jt rfl))))) (by walk_at "b")
theorem mV(M_KnownSteps_steps_from:dq P w K mg C Ck):bW P w K mg C Ck Cd:=fun base=>dM c.dc.cls T.f_Made_steps_from (fun S _ _ _ _ _ _ _ _ _ hr hu h=>bK (C8 c.dc h) (af (aq (qm hr (M_KnownSteps_steps_from base) (dC (pv 0) rfl) (a1 (pv 1)))))) (by walk_at "b")
theorem pU(M_Made_steps_from:bW P w K mg C Ck Cd):dP P w K mg C Ck Cd:=fun base=>dM c.dc.cls T.f_Made_kinds_at (fun S _ _ _ _ _ _ _ _ _ hr hu h=>bK (C5 c.dc c.hush h) (ac (Jg 2 S (EY (qm hr (M_Made_steps_from base) (pv 0) (a1 (pv 1)))) (aJ (by decide)) fun _ _ _ _ _ _=>⟨gc 0,gG (jn gS (xq (pv 0) ag) bJ),pv 0⟩) (af (aq (aB gk (qc (aQ (pv 2)) (aJ (by decide)) fun _ _ _ _ _ _=>⟨gc 0,bU,aB gk (bh (a1 (pv 0))) (dC (pv 1) rfl)⟩) (bh (a1 (aB gk (dC (pv 0) rfl) (bh (a1 (fh rfl c.HUSH))))))))))) (by walk_at "b")
theorem pW(D_product:lU P w K mg)(M_Made_steps_from:bW P w K mg C Ck Cd)(M_Made_kinds_at:dP P w K mg C Ck Cd):cR P w K mg C Ck Cd:=fun base=>by
  have E0:mj P w K mg base Cd "count_of" ["self","face","d","signs"] 7 Eu:=by
   obtain⟨f,a,i,t⟩:=T.f_Made_count_of;obtain⟨fd,F⟩:=t.fun_;exact⟨f,fd,B5,c.dc.cls,⟨a,i,F.kp⟩,F.binds (ps:=["self","face","d","signs"]) (by walk_at "b")⟩
  have sA:∀(n D:Nat) (sp:Sp),7<=n->D<=4->(∀m,D=m+1->sp=(gR K C Ck Cd m))->mj P w K mg base Cd "count_of" ["self","face","d","signs"] n sp->mj P w K mg base Cd "count_at" ["self","face","d"] (n+1) (fM C Ck Cd D):=fun n D sp hb hD hS Mr=>dM c.dc.cls T.f_Made_count_at (fun S _ _ _ _ _ _ _ _ _ hr hu h=>bK (EG c.dc hD hS h) (ac (bG (PW.pt (kT (cX (nh (pv 1))) (jR (jn gS (pv 2) ag)))) (af (aq ag)) aH) (ac (bG (cX (fI hu (aK (a2 (pv 1) (pv 2))) (dC (pv 0) rfl))) (ac (Jg 3 S (aQ (qm (k0:=7) (hr.mono (aG (by decide) hb)) (M_Made_kinds_at base) (pv 0) (a1 (pv 1)))) (aJ (by decide)) fun _ _ _ _ _ _=>⟨gc 0,bU,qm (hk:=ax _) hr Mr (pv 3) (a3 (pv 1) (pv 2) (pv 0))⟩) (af (fP hu (dC (pv 0) rfl) (aK (a2 (pv 1) (pv 2))) (aB cg ag (qB (DN rfl) z.sum boot_sum (a1 (pv 3)))) rfl))) aH) (af (aq (jT hu (dC (pv 0) rfl) (aK (a2 (pv 1) (pv 2))) (fun _ _=>rfl))))))) (by walk_at "b");have sB:∀n D:Nat,7<=n->mj P w K mg base Cd "count_at" ["self","face","d"] n (fM C Ck Cd D)->mj P w K mg base Cd "count_of" ["self","face","d","signs"] (n+1) (gR K C Ck Cd D):=fun n D hb Mr=>dM c.dc.cls T.f_Made_count_of (fun S _ _ _ _ _ _ _ _ _ hr hu h=>bK (zc h) (ac (qs 4 S (qm (k0:=6) (hr.mono (aG (by decide) hb)) (M_Made_steps_from base) (pv 0) (a1 (pv 1)))) (af (aq (qf (k0:=1) (hr.mono (aG (by decide) hb)) (D_product base) (a1 (qc (aQ (pv 3)) (aJ (by decide)) fun _ _ _ _ _ _=>⟨gc 0,bU,qm (hk:=ax _) hr Mr (pv 1) (a2 (ju hu (pv 3) (pv 0) ⟨rfl,rfl,rfl,rfl⟩) (aB jU (pv 2) ag))⟩))))))) (by walk_at "b");have A0:=sA 7 0 _ (by decide) (by decide) (fun m e=>by cases e) E0;have B0:=sB 8 0 (by decide) A0;have A1:=sA 9 1 _ (by decide) (by decide) (fun m e=>by cases e;rfl) B0;have B1:=sB 10 1 (by decide) A1;have A2:=sA 11 2 _ (by decide) (by decide) (fun m e=>by cases e;rfl) B1;have B2:=sB 12 2 (by decide) A2;have A3:=sA 13 3 _ (by decide) (by decide) (fun m e=>by cases e;rfl) B2;have B3:=sB 14 3 (by decide) A3;have A4:=sA 15 4 _ (by decide) (by decide) (fun m e=>by cases e;rfl) B3;exact A4
theorem pV(D_product:lU P w K mg)(M_Made_steps_from:bW P w K mg C Ck Cd)(M_Made_count_at:cR P w K mg C Ck Cd):fx P w K mg C Ck Cd:=fun base=>dM c.dc.cls T.f_Made_count_of (fun S _ _ _ _ _ _ _ _ _ hr hu h=>bK (zc h) (ac (qs 4 S (qm hr (M_Made_steps_from base) (pv 0) (a1 (pv 1)))) (af (aq (qf hr (D_product base) (a1 (qc (aQ (pv 3)) (aJ (by decide)) fun _ _ _ _ _ _=>⟨gc 0,bU,qm hr (M_Made_count_at base) (pv 1) (a2 (ju hu (pv 3) (pv 0) ⟨rfl,rfl,rfl,rfl⟩) (aB jU (pv 2) ag))⟩))))))) (by walk_at "b")
theorem uP:j5 P w K mg:=fun base=>dG X G T.f_trial_from (fun S _ _ _ _ _ _ _ _ _ hr hu h=>bK (C0 h) (ac (bG (jn gS (xt (xl (pv 0) ag) ag) bJ) (ac (Jg 2 S (BT rfl z.zip (a2 (cU fN (pv 0) (c9 ag) fo) (cU fN (pv 1) (c9 ag) fo))) (oR (dQ (aJ (by decide)) cj (dQ (aJ (by decide)) cj (kZ) (dR)) (iL cj (dR)))) fun _ _ _ _ _ _=>⟨dA rfl (ay (gc 0) (ay (gc 1) cD)),bU,aK (a2 (xq (pv 0) ag) (pv 1))⟩) (af (aq (aK (bu bJ (a3 (xt (xl (pv 0) ag) ag) (xl (pv 1) ag) (eJ cY rfl z.tuple eD (a1 (pv 2))))))))) aH) (ac (Jg 2 S (BT rfl z.zip (a2 (cU fN (pv 0) fo (c9 (EZ Ah ag))) (cU fN (pv 1) fo (c9 (EZ Ah ag))))) (oR (dQ (aJ (by decide)) cj (dQ (aJ (by decide)) cj (kZ) (dR)) (iL cj (dR)))) fun _ _ _ _ _ _=>⟨dA rfl (ay (gc 0) (ay (gc 1) cD)),bU,aK (a2 (xq (pv 0) ag) (pv 1))⟩) (af (aq (aK (a3 bJ (eJ cY rfl z.tuple eD (a1 (pv 2))) (xl (pv 1) (EZ Ah ag))))))))) (by walk_at "b")
theorem pT(M_Made_steps_from:bW P w K mg C Ck Cd)(M_Made_kinds_at:dP P w K mg C Ck Cd)(M_Made_count_at:cR P w K mg C Ck Cd)(M_Made_count_of:fx P w K mg C Ck Cd)(D_trial_from:j5 P w K mg):h7 P w K mg C Ck Cd:=fun base=>by
  have E0:mj P w K mg base Cd "trial_of" ["self","face","d","signs","number"] 17 Eu:=by
   obtain⟨f,a,i,t⟩:=T.f_Made_trial_of;obtain⟨fd,F⟩:=t.fun_;exact⟨f,fd,B5,c.dc.cls,⟨a,i,F.kp⟩,F.binds (ps:=["self","face","d","signs","number"]) (by walk_at "b")⟩
  have sA:∀(n D:Nat) (sp:Sp),17<=n->D<=4->(∀m,D=m+1->sp=(ow K C Ck Cd m))->mj P w K mg base Cd "trial_of" ["self","face","d","signs","number"] n sp->mj P w K mg base Cd "trial_at" ["self","face","d","number"] (n+1) (jK K C Ck Cd D):=fun n D sp hb hD hS Mr=>dM c.dc.cls T.f_Made_trial_at (fun S _ _ _ _ _ _ _ _ _ hr hu h=>bK (GI c.dc c.blm c.enD hD hS h) (ac (bG (cX (nh (pv 1))) (af (aq (fh rfl c.BLAME))) aH) (ac (bG (jn gS (pv 3) ag) (af (aq (fh rfl c.END))) aH) (ac (qs 4 S (aB jU (pv 3) ag)) (ac (qs 5 S (qm (k0:=7) (hr.mono (aG (by decide) hb)) (M_Made_kinds_at base) (pv 0) (a1 (pv 1)))) (ac (qs 6 S ag) (ac (oP bp (jn Fc (pv 4) (qm (k0:=17) (hr.mono (aG (by decide) hb)) (M_Made_count_of base) (pv 0) (a3 (pv 1) (pv 2) (xl (pv 5) (pv 6))))) (ac (AM (i:=4) S rfl (Or.inl rfl) (qm (k0:=17) (hr.mono (aG (by decide) hb)) (M_Made_count_of base) (pv 0) (a3 (pv 1) (pv 2) (xl (pv 5) (pv 6)))) IF) (af (AM (i:=6) S rfl (Or.inl rfl) ag Fx)))) (af (aq (qm (hk:=ax _) hr Mr (pv 0) (bu (pv 1) (a3 (pv 2) (xl (pv 5) (pv 6)) (pv 4))))))))))))) (by walk_at "b");have sB:∀n D:Nat,17<=n->mj P w K mg base Cd "trial_at" ["self","face","d","number"] n (jK K C Ck Cd D)->mj P w K mg base Cd "trial_of" ["self","face","d","signs","number"] (n+1) (ow K C Ck Cd D):=fun n D hb Mr=>dM c.dc.cls T.f_Made_trial_of (fun S _ _ _ _ _ _ _ _ _ hr hu h=>bK (GH h) (ac (qs 5 S (qm (k0:=6) (hr.mono (aG (by decide) hb)) (M_Made_steps_from base) (pv 0) (a1 (pv 1)))) (ac (qs 6 S (bh cP)) (ac (qs 7 S (pv 4)) (ac (bI bp rfl (EX rfl z.reversed (a1 (pv 3))) (gn 8 S) (ac (jS (qB xZ z.divmod boot_divmod (a2 (pv 7) (qm (k0:=16) (hr.mono (aG (by decide) hb)) (M_Made_count_at base) (pv 0) (a2 (ju hu (pv 5) (pv 8) ⟨rfl,rfl,rfl,rfl⟩) (aB jU (pv 2) ag))))) (dA rfl (ay (gn 7 S) (ay (gn 9 S) cD)))) (af (bt (iJ eP g7 g6 cF (pv 6) (a1 (qm (hk:=ax _) hr Mr (pv 0) (a3 (ju hu (pv 5) (pv 8) ⟨rfl,rfl,rfl,rfl⟩) (aB jU (pv 2) ag) (pv 9))))))))) (ac (bt (AN eP PySem.F.slot_list_reverse PySem.F.type_list_reverse AR (pv 6))) (af (aq (qf (k0:=1) (hr.mono (aG (by decide) hb)) (D_trial_from base) (a2 (pv 3) (pv 6))))))))))) (by walk_at "b");have A0:=sA 17 0 _ (by decide) (by decide) (fun m e=>by cases e) E0;have B0:=sB 18 0 (by decide) A0;have A1:=sA 19 1 _ (by decide) (by decide) (fun m e=>by cases e;rfl) B0;have B1:=sB 20 1 (by decide) A1;have A2:=sA 21 2 _ (by decide) (by decide) (fun m e=>by cases e;rfl) B1;have B2:=sB 22 2 (by decide) A2;have A3:=sA 23 3 _ (by decide) (by decide) (fun m e=>by cases e;rfl) B2;have B3:=sB 24 3 (by decide) A3;have A4:=sA 25 4 _ (by decide) (by decide) (fun m e=>by cases e;rfl) B3;exact A4
theorem Ar(D_first_face:ip P w K mg C)(D_need_depth:io P w K mg)(D_Made:yt P w K mg C Ck Cd)(M_Made_count_at:cR P w K mg C Ck Cd)(M_Made_trial_at:h7 P w K mg C Ck Cd):v9 P w K mg C:=fun base=>dG X G T.f_made_by (fun S _ _ _ _ _ _ _ _ _ hr hu h=>bK (C9 (K:=K) c.dc h) (ac (bt (qf hr (D_need_depth base) (a1 (pv 1)))) (ac (qs 3 S (xA (D_Made base) (hr.mono (by decide)) rfl (a1 (pv 0)))) (ac (bG (PW.pt (kT (jn zo (pv 2) ag) (jR (jn Fc (pv 2) (qm hr (M_Made_count_at base) (pv 3) (a2 (qf hr (D_first_face base) (a1 (pv 0))) (pv 1))))))) (af (kW)) aH) (af (aq (qm hr (M_Made_trial_at base) (pv 3) (a3 (qf hr (D_first_face base) (a1 (pv 0))) (pv 1) (pv 2))))))))) (by walk_at "b")
theorem Av:lW P w K mg:=fun base=>dG X G T.f_is_tell (fun S _ _ _ _ _ _ _ _ _ hr hu h=>bK (Dd h) (af (aq (tW (Ec gS (ql z.len (a1 (pv 0))) ag) (tU (Ec gS (xt (pv 0) ag) bJ)))))) (by walk_at "b")
theorem Au:lV P w K mg:=fun base=>dG X G T.f_is_wait (fun S _ _ _ _ _ _ _ _ _ hr hu h=>bK (Dc h) (af (aq (tW (Ec gS (ql z.len (a1 (pv 0))) ag) (tU (Ec gS (xt (pv 0) ag) bJ)))))) (by walk_at "b")
theorem n_:gu P w K mg:=fun base=>dG X G T.f_says_and_parts (fun S _ _ _ _ _ _ _ _ _ hr hu h=>bK (xw h) (af (aq (qc (tS (pv 0)) (oR (dQ (aJ (by decide)) cj (dQ (aJ (by decide)) cj (kZ) (dR)) (iL cj (dR)))) fun _ _ _ _ _ _=>⟨dA rfl (ay (gc 0) (ay (gc 1) cD)),bU,aK (a2 (aK (a2 bJ (pv 0))) (pv 1))⟩)))) (by walk_at "b")
theorem rE(D_is_tell:lW P w K mg)(D_is_wait:lV P w K mg)(D_says_and_parts:gu P w K mg):fX P w K mg:=fun base=>dG X G T.f_signed_parts (fun S _ _ _ _ _ _ _ _ _ hr hu h=>bK (C2 c.hush h) (ac (bG (kU (qf hr (D_is_tell base) (a1 (pv 0)))) (af (aq (aB gk (bh (a1 (aK (a2 (aK (a2 bJ (xt (pv 0) ag))) (xt (pv 0) ag))))) (qf hr (D_says_and_parts base) (a1 (xt (pv 0) ag)))))) aH) (ac (bG (kU (qf hr (D_is_wait base) (a1 (pv 0)))) (af (aq (aB gk (qf hr (D_says_and_parts base) (a1 (xt (pv 0) ag))) (bh (a1 (aK (a2 (fh rfl c.HUSH) (xt (pv 0) ag)))))))) aH) (af (aq (bh cP)))))) (by walk_at "b")
theorem rF(D_signed_parts:fX P w K mg):iT P w K mg:=fun base=>dG X G T.f_parts_behind (fun S _ _ _ _ _ _ _ _ _ hr hu h=>bK (C3 h) (ac (qs 3 S (bh cP)) (ac (bI bp rfl (lK rfl z.enumerate (a1 (qf hr (D_signed_parts base) (a1 (pv 2))))) (dA rfl (ay (gn 4 S) (ay (gn 5 S) cD))) (ac (jS (pv 5) (dA rfl (ay (gn 6 S) (ay (gn 7 S) cD)))) (af (bt (iJ eP g7 g6 cF (pv 3) (a1 (aK (a3 (aB G7 (pv 0) (aK (a1 (pv 4)))) (aB gk (pv 1) (bh (a1 (pv 6)))) (pv 7))))))))) (af (aq (pv 3)))))) (by walk_at "b")
theorem w8(D_parts_behind:iT P w K mg):ln P w K mg:=fun base=>dG X G T.f_with_ways (fun S _ _ _ _ _ _ _ _ _ hr hu h=>bK (y8 h) (ac (qs 1 S (bh cP)) (ac (qs 2 S (bh (a1 (aK (a3 (aK cP) (bh cP) (pv 0)))))) (ac (oP bp (jn qQ (ql z.len (a1 (pv 2))) ag) (ac (jS (AN eP PySem.F.slot_list_pop PySem.F.type_list_pop Fn (pv 2)) (dA rfl (ay (gn 3 S) (ay (gn 4 S) (ay (gn 5 S) cD))))) (ac (bt (iJ eP g7 g6 cF (pv 1) (a1 (aK (a3 (pv 3) (pv 4) (pv 5)))))) (ac (bI bp rfl (EX rfl z.reversed (a1 (qf hr (D_parts_behind base) (a3 (pv 3) (pv 4) (pv 5))))) (gn 6 S) (af (bt (iJ eP g7 g6 cF (pv 2) (a1 (pv 6)))))) (af (bG (PW.pt (kT (jn gS (ql z.len (a1 (pv 3))) (fh rfl c.MOST_WITHIN)) (jR (jn qQ (aB cg (ql z.len (a1 (pv 1))) (ql z.len (a1 (pv 2)))) (fh rfl c.MOST_TRIALS))))) (af (kW)) aH)))))) (af (aq (pv 1))))))) (by walk_at "b")
theorem kJ(M_Machine_says:eF P w K mg C):eW P w K mg C:=fun base=>dG X G T.f_has_says_in_order (fun S _ _ _ _ _ _ _ _ _ hr hu h=>bK (AG h) (af (aq (Ec (jV hu) (qc (tS (pv 1)) (oR (dQ (aJ (by decide)) cj (dQ (aJ (by decide)) cj (kZ) (dR)) (iL cj (dR)))) fun _ _ _ _ _ _=>⟨dA rfl (ay (gc 0) (ay (gc 1) cD)),bU,pv 0⟩) (Ir hr (M_Machine_says base) (pv 0)))))) (by walk_at "b")
theorem mW(M_Machine_asks:f_ P w K mg C)(D_is_tell:lW P w K mg)(D_is_wait:lV P w K mg)(D_has_says_in_order:eW P w K mg C):f6 P w K mg C:=fun base=>dG X G T.f_is_so_by_itself (fun S _ _ _ _ _ _ _ _ _ hr hu h=>bK (GK c.blm c.enD h) (ac (bG (kU (qf hr (D_is_tell base) (a1 (pv 1)))) (af (aq (tW (eci (xB hu) (xt (pv 1) ag) (Ir hr (M_Machine_asks base) (pv 0))) (tU (qf hr (D_has_says_in_order base) (a2 (pv 0) (xt (pv 1) ag))))))) aH) (ac (bG (kU (qf hr (D_is_wait base) (a1 (pv 1)))) (af (aq (qf hr (D_has_says_in_order base) (a2 (pv 0) (xt (pv 1) ag))))) aH) (af (aq (Jh (Ec (jV hu) (pv 1) (fh rfl c.END)) (tU (Ec (jV hu) (pv 1) (fh rfl c.BLAME))))))))) (by walk_at "b")
theorem kK(D_with_ways:ln P w K mg)(D_is_so_by_itself:f6 P w K mg C):eX P w K mg C:=fun base=>dG X G T.f_checked_with_ways (fun S _ _ _ _ _ _ _ _ _ hr hu h=>bK (AH h) (ac (qs 2 S (qf hr (D_with_ways base) (a1 (pv 1)))) (ac (bI bp rfl (aQ (pv 2)) (dA rfl (ay (gn 3 S) (ay (gn 4 S) (ay (gn 5 S) cD)))) (af (bG (ET (kU (qf hr (D_is_so_by_itself base) (a2 (pv 0) (pv 5))))) (af (kW)) aH))) (af (aq (pv 2)))))) (by walk_at "b")
theorem uQ(D_checked_with_ways:eX P w K mg C):j6 P w K mg C:=fun base=>dG X G T.f_need_trial (fun S _ _ _ _ _ _ _ _ _ hr hu h=>bK (C4 (K:=K) h) (af (bt (qf hr (D_checked_with_ways base) (a2 (pv 0) (pv 1)))))) (by walk_at "b")
theorem n5(M_Made_steps_from:bW P w K mg C Ck Cd)(M_Made_kinds_at:dP P w K mg C Ck Cd)(M_Made_count_at:cR P w K mg C Ck Cd)(M_Made_count_of:fx P w K mg C Ck Cd)(D_signed_parts:fX P w K mg):gD P w K mg C Ck Cd:=fun base=>by
  have E0:mj P w K mg base Cd "number_of_kind" ["self","face","d","trial"] 17 Eu:=by
   obtain⟨f,a,i,t⟩:=T.f_Made_number_of_kind;obtain⟨fd,F⟩:=t.fun_;exact⟨f,fd,B5,c.dc.cls,⟨a,i,F.kp⟩,F.binds (ps:=["self","face","d","trial"]) (by walk_at "b")⟩
  have sA:∀(n D:Nat) (sp:Sp),17<=n->D<=4->(∀m,D=m+1->sp=(kO K C Ck Cd m))->mj P w K mg base Cd "number_of_kind" ["self","face","d","trial"] n sp->mj P w K mg base Cd "number_at" ["self","face","d","trial"] (n+1) (m9 K C Ck Cd D):=fun n D sp hb hD hS Mr=>dM c.dc.cls T.f_Made_number_at (fun S _ _ _ _ _ _ _ _ _ hr hu h=>bK (Il c.blm c.enD hD hS h) (ac (bG (cX (nh (pv 1))) (af (aq (zm (jn (AQ hu) (pv 3) (fh rfl c.BLAME)) ag jf))) aH) (ac (bG (jn (AQ hu) (pv 3) (fh rfl c.END)) (af (aq ag)) aH) (ac (bG (jn gS (pv 2) ag) (af (aq jf)) aH) (ac (qs 4 S ag) (ac (bI bp rfl (aQ (qm (k0:=7) (hr.mono (aG (by decide) hb)) (M_Made_kinds_at base) (pv 0) (a1 (pv 1)))) (gn 5 S) (ac (bG (jn (AQ hu) (pv 5) (qc (aQ (qf (k0:=2) (hr.mono (aG (by decide) hb)) (D_signed_parts base) (a1 (pv 3)))) (oR (dQ (aJ (by decide)) cj (dQ (aJ (by decide)) cj (kZ) (dR)) (iL cj (dR)))) fun _ _ _ _ _ _=>⟨dA rfl (ay (gc 0) (ay (gc 1) cD)),bU,pv 0⟩)) (ac (qs 6 S (qm (hk:=ax _) hr Mr (pv 0) (a3 (pv 1) (pv 2) (pv 3)))) (af (aq (zm (cX (nh (pv 6))) jf (aB cg (pv 4) (pv 6)))))) aH) (af (AM (i:=4) S rfl (Or.inl rfl) (qm (k0:=17) (hr.mono (aG (by decide) hb)) (M_Made_count_of base) (pv 0) (a3 (pv 1) (pv 2) (pv 5))) Fx)))) (af (aq jf)))))))) (by walk_at "b");have sB:∀n D:Nat,17<=n->mj P w K mg base Cd "number_at" ["self","face","d","trial"] n (m9 K C Ck Cd D)->mj P w K mg base Cd "number_of_kind" ["self","face","d","trial"] (n+1) (kO K C Ck Cd D):=fun n D hb Mr=>dM c.dc.cls T.f_Made_number_of_kind (fun S _ _ _ _ _ _ _ _ _ hr hu h=>bK (ED h) (ac (qs 4 S (qm (k0:=6) (hr.mono (aG (by decide) hb)) (M_Made_steps_from base) (pv 0) (a1 (pv 1)))) (ac (qs 5 S ag) (ac (bI bp rfl (aQ (qf (k0:=2) (hr.mono (aG (by decide) hb)) (D_signed_parts base) (a1 (pv 3)))) (dA rfl (ay (gn 6 S) (ay (gn 7 S) cD))) (ac (qs 8 S (qm (hk:=ax _) hr Mr (pv 0) (a3 (ju hu (pv 4) (pv 6) ⟨rfl,rfl,rfl,rfl⟩) (aB jU (pv 2) ag) (pv 7)))) (ac (bG (cX (nh (pv 8))) (af (aq jf)) aH) (af (qs 5 S (aB cg (aB sk (pv 5) (qm (k0:=16) (hr.mono (aG (by decide) hb)) (M_Made_count_at base) (pv 0) (a2 (ju hu (pv 4) (pv 6) ⟨rfl,rfl,rfl,rfl⟩) (aB jU (pv 2) ag)))) (pv 8))))))) (af (aq (pv 5))))))) (by walk_at "b");have A0:=sA 17 0 _ (by decide) (by decide) (fun m e=>by cases e) E0;have B0:=sB 18 0 (by decide) A0;have A1:=sA 19 1 _ (by decide) (by decide) (fun m e=>by cases e;rfl) B0;have B1:=sB 20 1 (by decide) A1;have A2:=sA 21 2 _ (by decide) (by decide) (fun m e=>by cases e;rfl) B1;have B2:=sB 22 2 (by decide) A2;have A3:=sA 23 3 _ (by decide) (by decide) (fun m e=>by cases e;rfl) B2;have B3:=sB 24 3 (by decide) A3;have A4:=sA 25 4 _ (by decide) (by decide) (fun m e=>by cases e;rfl) B3;exact A4
theorem w_(D_first_face:ip P w K mg C)(D_need_depth:io P w K mg)(D_Made:yt P w K mg C Ck Cd)(D_need_trial:j6 P w K mg C)(M_Made_number_at:gD P w K mg C Ck Cd):rc P w K mg C:=fun base=>dG X G T.f_number_of (fun S _ _ _ _ _ _ _ _ _ hr hu h=>bK (EB (K:=K) (Cd:=Cd) h) (ac (bt (qf hr (D_need_trial base) (a2 (pv 0) (pv 2)))) (ac (bt (qf hr (D_need_depth base) (a1 (pv 1)))) (af (aq (qm hr (M_Made_number_at base) (xA (D_Made base) (hr.mono (by decide)) rfl (a1 (pv 0))) (a3 (qf hr (D_first_face base) (a1 (pv 0))) (pv 1) (pv 2)))))))) (by walk_at "b")
theorem uU(D_law_still_on:fZ P w K mg):j9 P w K mg:=fun base=>dG X G T.f_law_behind (fun S _ _ _ _ _ _ _ _ _ hr hu h=>bK (GO h) (ac (jS (pv 0) (dA rfl (ay (gn 3 S) (ay (gn 4 S) (ay (gn 5 S) (ay (gn 6 S) cD)))))) (ac (bG (jn (jV hu) (pv 2) (aK (a1 bJ))) (ac (qs 7 S (qc (aQ (pv 6)) (aJ (by decide)) fun _ _ _ _ _ _=>⟨gc 0,gG (jn BZ (xt (xt (pv 0) ag) ag) bJ),xt (pv 0) ag⟩)) (af (aq (eJ cY rfl z.tuple eD (a1 (qc (tS (pv 1)) (aJ (by decide)) fun _ _ _ _ _ _=>⟨gc 0,gG (Ig (lL hu) (pv 0) (pv 1)),pv 0⟩)))))) aH) (ac (qs 8 S (qf hr (D_law_still_on base) (a2 (pv 6) (qc (aQ (pv 6)) (aJ (by decide)) fun _ _ _ _ _ _=>⟨gc 0,gG (PW.pt (p7 (Ig (xB hu) (xt (pv 0) ag) (pv 1)) (oO (jn (jV hu) (xt (pv 0) ag) (pv 2))))),xt (pv 0) ag⟩)))) (af (aq (eJ cY rfl z.tuple eD (a1 (qc (aQ (pv 5)) (aJ (by decide)) fun _ _ _ _ _ _=>⟨gc 0,gG (Ig (xB hu) (pv 0) (pv 1)),pv 0⟩))))))))) (by walk_at "b")
theorem xh(D_law_still_on:fZ P w K mg):rg P w K mg:=fun base=>dG X G T.f_law_begin (fun S _ _ _ _ _ _ _ _ _ hr hu h=>bK (EH h) (ac (qs 1 S (qf hr (D_law_still_on base) (a2 (xq (pv 0) ag) (bh (a1 (xq (xq (pv 0) ag) ag)))))) (af (aq (eJ cY rfl z.tuple eD (a1 (qc (aQ (xq (pv 0) ag)) (aJ (by decide)) fun _ _ _ _ _ _=>⟨gc 0,gG (Ig (xB hu) (pv 0) (pv 1)),pv 0⟩))))))) (by walk_at "b")
theorem og:gx P w K mg:=fun base=>dG X G T.f_law_part_signs (fun S _ _ _ _ _ _ _ _ _ hr hu h=>bK (EA h) (ac (Jg 2 S (aQ (xq (pv 0) ag)) (aJ (by decide)) fun _ _ _ _ _ _=>⟨gc 0,bU,aK (a2 bJ (pv 0))⟩) (ac (bG (cX (nh (pv 1))) (af (aq (aB gk (pv 2) (bh (a1 (aK (a1 bJ))))))) aH) (af (aq (aB gk (bh (a1 (aK (a2 bJ (pv 1))))) (pv 2))))))) (by walk_at "b")
theorem xj(D_law_behind:j9 P w K mg):jb P w K mg:=fun base=>dG X G T.f_law_after (fun S _ _ _ _ _ _ _ _ _ hr hu h=>bK (EJ h) (ac (bG (cX (fI hu (aK (a2 (pv 2) (pv 3))) (pv 1))) (af (fP hu (pv 1) (aK (a2 (pv 2) (pv 3))) (qf hr (D_law_behind base) (a3 (pv 0) (pv 2) (pv 3))) rfl)) aH) (af (aq (jT hu (pv 1) (aK (a2 (pv 2) (pv 3))) (fun _ _=>rfl)))))) (by walk_at "b")
theorem xi(D_law_after:jb P w K mg):lu P w K mg:=fun base=>dG X G T.f_law_asked (fun S _ _ _ _ _ _ _ _ _ hr hu h=>bK (EI h) (af (aq (qc (aQ (xq (pv 0) ag)) (aJ (by decide)) fun _ _ _ _ _ _=>⟨gc 0,gG (jn (Fb hu) (qf hr (D_law_after base) (bu (pv 1) (a3 (pv 2) (pv 3) (aK (a2 bJ (pv 0)))))) (aK cP)),pv 0⟩)))) (by walk_at "b")
theorem xb:lp P w K mg:=fun base=>dG X G T.f_law_times (fun S _ _ _ _ _ _ _ _ _ hr hu h=>bK (Ex h) (ac (qs 1 S ag) (ac (bI bp rfl (aQ (pv 0)) (gn 2 S) (af (qs 1 S (aB sk (pv 1) (pv 2))))) (af (aq (pv 1)))))) (by walk_at "b")
theorem xg(D_law_part_signs:gx P w K mg)(D_law_after:jb P w K mg)(D_law_asked:lu P w K mg)(D_law_times:lp P w K mg):rf P w K mg:=fun base=>by
  have E0:ga P w K mg base "_law_sizes" ["told","known","face","ask","deep"] 4 Eu:=by
   obtain⟨f,a,t⟩:=T.f_law_sizes;obtain⟨fd,F⟩:=t.fun_;exact⟨f,fd,B5,dU X G a,F.kp,F.binds (ps:=["told","known","face","ask","deep"]) (by walk_at "b")⟩
  have sA:∀(n D:Nat) (sp:Sp),4<=n->D<=4->(∀m,D=m+1->sp=(kM K m))->ga P w K mg base "_law_sizes" ["told","known","face","ask","deep"] n sp->ga P w K mg base "_law_count" ["told","known","face","deep"] (n+1) (jM K D):=fun n D sp hb hD hS Mr=>dG X G T.f_law_count (fun S _ _ _ _ _ _ _ _ _ hr hu h=>bK (GJ hD hS h) (ac (bG (PW.pt (kT (jn (jV hu) (pv 2) (aK cP)) (jR (jn gS (pv 3) ag)))) (af (aq ag)) aH) (ac (bG (cX (fI hu (aK (a2 (pv 2) (pv 3))) (pv 1))) (ac (qs 4 S ag) (ac (bI bp rfl (aQ (aB gk (qf (k0:=4) (hr.mono (aG (by decide) hb)) (D_law_asked base) (a3 (pv 0) (pv 1) (pv 2))) (bh (a1 jf)))) (gn 5 S) (af (qs 4 S (aB cg (pv 4) (qf (k0:=1) (hr.mono (aG (by decide) hb)) (D_law_times base) (a1 (qf (hk:=ax _) hr Mr (bu (pv 0) (bu (pv 1) (a3 (pv 2) (pv 5) (pv 3))))))))))) (af (fP hu (pv 1) (aK (a2 (pv 2) (pv 3))) (pv 4) rfl)))) aH) (af (aq (jT hu (pv 1) (aK (a2 (pv 2) (pv 3))) (fun _ _=>rfl))))))) (by walk_at "b");have sB:∀n D:Nat,4<=n->ga P w K mg base "_law_count" ["told","known","face","deep"] n (jM K D)->ga P w K mg base "_law_sizes" ["told","known","face","ask","deep"] (n+1) (kM K D):=fun n D hb Mr=>dG X G T.f_law_sizes (fun S _ _ _ _ _ _ _ _ _ hr hu h=>bK (Ey h) (ac (qs 5 S (bh cP)) (ac (bI bp rfl (aQ (qf (k0:=1) (hr.mono (aG (by decide) hb)) (D_law_part_signs base) (a2 (pv 0) (pv 3)))) (gn 6 S) (af (bt (iJ eP g7 g6 cF (pv 5) (a1 (qf (hk:=ax _) hr Mr (bu (pv 0) (a3 (pv 1) (qf (k0:=3) (hr.mono (aG (by decide) hb)) (D_law_after base) (bu (pv 0) (a3 (pv 1) (pv 2) (pv 6)))) (aB jU (pv 4) ag))))))))) (af (aq (pv 5)))))) (by walk_at "b");have A0:=sA 4 0 _ (by decide) (by decide) (fun m e=>by cases e) E0;have B0:=sB 5 0 (by decide) A0;have A1:=sA 6 1 _ (by decide) (by decide) (fun m e=>by cases e;rfl) B0;have B1:=sB 7 1 (by decide) A1;have A2:=sA 8 2 _ (by decide) (by decide) (fun m e=>by cases e;rfl) B1;have B2:=sB 9 2 (by decide) A2;have A3:=sA 10 3 _ (by decide) (by decide) (fun m e=>by cases e;rfl) B2;have B3:=sB 11 3 (by decide) A3;have A4:=sA 12 4 _ (by decide) (by decide) (fun m e=>by cases e;rfl) B3;exact A4
theorem At(D_law_take:gv P w K mg):v_ P w K mg:=fun base=>dG X G T.f_law_far (fun S _ _ _ _ _ _ _ _ _ hr hu h=>bK (Im (K:=K) h) (ac (qs 2 S ag) (ac (bI bp rfl (iu rfl z.range (a1 ag)) (gn 3 S) (af (qs 2 S (aB cg (aB sk (pv 2) ag) (qf hr (D_law_take base) (a2 (pv 0) ag)))))) (af (aq (aB fR (pv 2) (pv 1))))))) (by walk_at "b")
end
theorem IC(X:K.In h)(G:h.Ns bH mg)(z:Zs mg)(c:Cs K mg C Ck Cd a_STILL a_HUSH a_BLAME a_END)(T:Ts K C Ck Cd):∃f fd,mg "law"=some (.ref f)/\(∀(s:Shared) (v:Value),sw s fd ⟨[v],[]⟩ [("script",v)])/\∀base:Heap,lm P w K mg base CX0 28 f fd ["script"] (sp_law49 K):=by
 have D_law_spread:j8 P w K mg:=uT X G z c T;have D_law_open:uK P w K mg:=yV X G z c T;have D_law_anew:nL P w K mg:=yW X G z c T;have D_law_take:gv P w K mg:=yU X G z c T D_law_spread;have D_law_names:lr P w K mg:=xc X G z c T D_law_take;have D_law_put:qD P w K mg:=As X G z c T;have D_law_draw_doors:gA P w K mg:=oh X G z c T D_law_take D_law_put;have D_law_model:re P w K mg:=xf X G z c T D_law_anew D_law_take D_law_names D_law_draw_doors;have D_is_name:qE P w K mg:=Aw X G z c T;have D_as_keys:jG P w K mg:=Ax X G z c T;have D_first_wrong_name:fC P w K mg:=l7 X G z c T D_is_name D_as_keys;have D_door_signs:j_ P w K mg:=uW X G z c T;have D_first_wrong_door:fD P w K mg:=l9 X G z c T D_as_keys;have D_goals_by_start_and_sign:cQ P w K mg:=iE X G z c T;have D_led_by_still:iU P w K mg:=rG X G z c T;have D_first_led_round:f8 P w K mg:=mY X G z c T;have D_need_none:ja P w K mg:=xa X G z c T;have D_need_parts:j7 P w K mg:=uR X G z c T D_first_wrong_name D_door_signs D_first_wrong_door D_need_none;have D_doors_by_start:gC P w K mg:=om X G z c T;have D_has_asks_alone:gB P w K mg:=oj X G z c T;have D_Machine:qF P w K mg C:=Ay X G z c T D_as_keys D_goals_by_start_and_sign D_led_by_still D_first_led_round D_need_none D_need_parts D_doors_by_start D_has_asks_alone;have D_law_machine:mD P w K mg C:=tE X G z c T D_Machine;have M_Machine_rooms:fz P w K mg C:=pX X G z c T;have M_Machine_led_from:fE P w K mg C:=lZ X G z c T;have D_with_still:im P w K mg C:=uO X G z c T M_Machine_rooms M_Machine_led_from
 have M_Machine_goals:h9 P w K mg C:=pY X G z c T;have M_Machine_is_quiet:fF P w K mg C:=l6 X G z c T;have D_law_still_on:fZ P w K mg:=rH X G z c T;have M_Machine_asks:f_ P w K mg C:=rD X G z c T;have M_Machine_says:eF P w K mg C:=rC X G z c T;have D_first_face:ip P w K mg C:=uV X G z c T M_Machine_rooms D_with_still;have D_face_behind:jh P w K mg C:=tF X G z c T D_with_still M_Machine_goals M_Machine_is_quiet;have D_signs_in_order:gq P w K mg C a_HUSH:=n6 X G z c T M_Machine_asks M_Machine_says;have D_steps_at:nK P w K mg C:=yT X G z c T D_face_behind D_signs_in_order;have D_KnownSteps:ka P w K mg Ck:=uX X G z c T;have M_KnownSteps_steps_from:dq P w K mg C Ck:=je X G z c T D_steps_at;have D_need_depth:io P w K mg:=uS X G z c T;have D_product:lU P w K mg:=Aq X G z c T;have D_Made:yt P w K mg C Ck Cd:=Gp X G z c T M_Machine_says D_KnownSteps;have M_Made_steps_from:bW P w K mg C Ck Cd:=mV X G z c T M_KnownSteps_steps_from
 have M_Made_kinds_at:dP P w K mg C Ck Cd:=pU X G z c T M_Made_steps_from
 have M_Made_count_at:cR P w K mg C Ck Cd:=pW X G z c T D_product M_Made_steps_from M_Made_kinds_at;have M_Made_count_of:fx P w K mg C Ck Cd:=pV X G z c T D_product M_Made_steps_from M_Made_count_at;have D_trial_from:j5 P w K mg:=uP X G z c T;have M_Made_trial_at:h7 P w K mg C Ck Cd:=pT X G z c T M_Made_steps_from M_Made_kinds_at M_Made_count_at M_Made_count_of D_trial_from
 have D_made_by:v9 P w K mg C:=Ar X G z c T D_first_face D_need_depth D_Made M_Made_count_at M_Made_trial_at;have D_is_tell:lW P w K mg:=Av X G z c T;have D_is_wait:lV P w K mg:=Au X G z c T;have D_says_and_parts:gu P w K mg:=n_ X G z c T;have D_signed_parts:fX P w K mg:=rE X G z c T D_is_tell D_is_wait D_says_and_parts;have D_parts_behind:iT P w K mg:=rF X G z c T D_signed_parts;have D_with_ways:ln P w K mg:=w8 X G z c T D_parts_behind;have D_has_says_in_order:eW P w K mg C:=kJ X G z c T M_Machine_says;have D_is_so_by_itself:f6 P w K mg C:=mW X G z c T M_Machine_asks D_is_tell D_is_wait D_has_says_in_order;have D_checked_with_ways:eX P w K mg C:=kK X G z c T D_with_ways D_is_so_by_itself;have D_need_trial:j6 P w K mg C:=uQ X G z c T D_checked_with_ways;have M_Made_number_at:gD P w K mg C Ck Cd:=n5 X G z c T M_Made_steps_from M_Made_kinds_at M_Made_count_at M_Made_count_of D_signed_parts;have D_number_of:rc P w K mg C:=w_ X G z c T D_first_face D_need_depth D_Made D_need_trial M_Made_number_at;have D_law_behind:j9 P w K mg:=uU X G z c T D_law_still_on;have D_law_begin:rg P w K mg:=xh X G z c T D_law_still_on;have D_law_part_signs:gx P w K mg:=og X G z c T;have D_law_after:jb P w K mg:=xj X G z c T D_law_behind;have D_law_asked:lu P w K mg:=xi X G z c T D_law_after;have D_law_times:lp P w K mg:=xb X G z c T;have D_law_count:rf P w K mg:=xg X G z c T D_law_part_signs D_law_after D_law_asked D_law_times;have D_law_far:v_ P w K mg:=At X G z c T D_law_take;obtain⟨f,a,t⟩:=T.f_law49;obtain⟨oc,od,an,sl,kV,dc,pm,cd,ct,l,c1,k1⟩:=t;have F:=FF (st:=(d_ 78)) l c1 k1;have sc:j4 CC EU (bV (d_ 78)):=by walk_at "s"
 have S:=sc.nd;exact⟨f,_,dU X G a,fun s v=>.of_eq rfl,fun base=>F.ok (k:=27) sc (by walk_at "l") (fun _ _ _ _ _ _ _ _ hr h=>by have hu:=Ca hr;exact bK (EF (C:=C) h) (ac (qs 1 S (qf hr (D_law_open base) (a1 (pv 0)))) (ac (qs 2 S (qf hr (D_law_model base) (a3 (pv 1) ag (qf hr (D_law_take base) (a2 (pv 1) ag))))) (ac (qs 3 S (qf hr (D_law_machine base) (a1 (pv 2)))) (ac (qs 4 S (xl (bh (bu ag (bu ag (bu ag (a3 ag ag ag))))) (qf hr (D_law_take base) (a2 (pv 1) ag)))) (ac (qs 5 S (qf hr (D_law_count base) (bu (pv 2) (a3 jt (qf hr (D_law_begin base) (a1 (pv 2))) (pv 4))))) (ac (qs 6 S (bh (a2 ag (aB jU (pv 5) ag)))) (ac (bI bp rfl (iu rfl z.range (a1 ag)) (gn 7 S) (af (bt (iJ eP g7 g6 cF (pv 6) (a1 (qf hr (D_law_far base) (a2 (pv 1) (pv 5)))))))) (ac (qs 8 S jf) (ac (bI bp rfl (aQ (qB Be z.sorted boot_sorted (a1 (pv 6)))) (gn 9 S) (ac (qs 10 S (qf hr (D_made_by base) (a3 (pv 3) (pv 4) (pv 9)))) (ac (qs 11 S (qf hr (D_number_of base) (a3 (pv 3) (aB cg (pv 4) ag) (pv 10)))) (ac (bG (PW.pt (kT (cX (nh (pv 11))) (jR (jn (IA hu) (qf hr (D_made_by base) (a3 (pv 3) (aB cg (pv 4) ag) (pv 11))) (pv 10))))) (af (aq mz)) aH) (ac (bG (PW.pt (p7 (jn gS (pv 9) ag) (oO (jn BZ (pv 11) ag)))) (af (aq mz)) aH) (ac (bG (PW.pt (p7 (cX (BX (pv 8))) (oO (jn BZ (Ec qQ (pv 11) (xt (pv 8) ag)) (Ec qQ (pv 9) (xt (pv 8) ag)))))) (af (aq mz)) aH) (af (qs 8 S (aK (a2 (pv 9) (pv 11))))))))))) (af (aq mz))))))))))))⟩
theorem all_mk{l:PySem.W.OpenLaw}{fa:Addr}{u_LETTERS:Value}{u_LONGEST_NAME:Value}{u_MOST_WORDS:Value}{u_MOST_ROOMS:Value}{u_MOST_DOORS:Value}{u_DEEPEST:Value}{u_MOST_WITHIN:Value}{u_MOST_TRIALS:Value}{o_STILL:Obj}{i_STILL:Array Value}{n_STILL:Nat}{o_HUSH:Obj}{i_HUSH:Array Value}{n_HUSH:Nat}{o_BLAME:Obj}{i_BLAME:Array Value}{n_BLAME:Nat}{o_END:Obj}{i_END:Array Value}{n_END:Nat}(X:K.In h)(G:h.Ns bH mg)(hfa:mg "law"=some (.ref fa))
  (aC:bT K bH "Machine"=some (some (.ref C)))
  (pg:sy K C Bx=true)
  (hd:vi K C=true)
  (po:yv K C=true)
  (sa:c_ K (.ref C) "__setattr__"=some (some (.builtin "object.__setattr__")))
  (mk:nQ K C=true)
  (kc:gK K (.ref C)=true)
  (na1:c_ K (.ref C) "own_asks"=some none)
  (na2:c_ K (.ref C) "own_says"=some none)
  (na3:c_ K (.ref C) "own_rooms"=some none)
  (na4:c_ K (.ref C) "own_doors"=some none)
  (na5:c_ K (.ref C) "leaving"=some none)
  (na6:c_ K (.ref C) "quiet"=some none)
  (na7:c_ K (.ref C) "sign_goals"=some none)
  (na8:c_ K (.ref C) "still_led"=some none)
  (aksc:bT K bH "KnownSteps"=some (some (.ref Ck)))
  (pgksc:sy K Ck Bx=true)
  (hdksc:vi K Ck=true)
  (poksc:yv K Ck=true)
  (saksc:c_ K (.ref Ck) "__setattr__"=some (some (.builtin "object.__setattr__")))
  (mkksc:nQ K Ck=true)
  (kcksc:gK K (.ref Ck)=true)
  (nksc1:c_ K (.ref Ck) "machine"=some none)
  (nksc2:c_ K (.ref Ck) "known"=some none)
  (adc:bT K bH "Made"=some (some (.ref Cd)))
  (pgdc:sy K Cd Bx=true)
  (hddc:vi K Cd=true)
  (podc:yv K Cd=true)
  (sadc:c_ K (.ref Cd) "__setattr__"=some (some (.builtin "object.__setattr__")))
  (mkdc:nQ K Cd=true)
  (kcdc:gK K (.ref Cd)=true)
  (ndc1:c_ K (.ref Cd) "says_signs"=some none)
  (ndc2:c_ K (.ref Cd) "known_steps"=some none)
  (ndc3:c_ K (.ref Cd) "known_counts"=some none)
  (z_all:bT K bH "all"=some none)
  (z_dict:bT K bH "dict"=some none)
  (z_divmod:bT K bH "divmod"=some none)
  (z_enumerate:bT K bH "enumerate"=some none)
  (z_len:bT K bH "len"=some none)
  (z_list:bT K bH "list"=some none)
  (z_range:bT K bH "range"=some none)
  (z_reversed:bT K bH "reversed"=some none)
  (z_sorted:bT K bH "sorted"=some none)
  (z_sum:bT K bH "sum"=some none)
  (z_tuple:bT K bH "tuple"=some none)
  (z_zip:bT K bH "zip"=some none)
  (g_LETTERS:bT K bH "LETTERS"=some (some u_LETTERS))
  (r_LETTERS:RelV (.str "abcdefghijklmnopqrstuvwxyz") u_LETTERS)
  (g_LONGEST_NAME:bT K bH "LONGEST_NAME"=some (some u_LONGEST_NAME))
  (r_LONGEST_NAME:RelV (.int 8) u_LONGEST_NAME)
  (g_MOST_WORDS:bT K bH "MOST_WORDS"=some (some u_MOST_WORDS))
  (r_MOST_WORDS:RelV (.int 4) u_MOST_WORDS)
  (g_MOST_ROOMS:bT K bH "MOST_ROOMS"=some (some u_MOST_ROOMS))
  (r_MOST_ROOMS:RelV (.int 150) u_MOST_ROOMS)
  (g_MOST_DOORS:bT K bH "MOST_DOORS"=some (some u_MOST_DOORS))
  (r_MOST_DOORS:RelV (.int 2000) u_MOST_DOORS)
  (g_DEEPEST:bT K bH "DEEPEST"=some (some u_DEEPEST))
  (r_DEEPEST:RelV (.int 4) u_DEEPEST)
  (g_MOST_WITHIN:bT K bH "MOST_WITHIN"=some (some u_MOST_WITHIN))
  (r_MOST_WITHIN:RelV (.int 8) u_MOST_WITHIN)
  (g_MOST_TRIALS:bT K bH "MOST_TRIALS"=some (some u_MOST_TRIALS))
  (r_MOST_TRIALS:RelV (.int 1000) u_MOST_TRIALS)
  (g_STILL:bT K bH "STILL"=some (some (.ref a_STILL)))
  (l_STILL:K.lookup a_STILL=some o_STILL)
  (c_STILL:o_STILL.cls=.type "tuple")
  (d_STILL:o_STILL.data=.seq i_STILL n_STILL)
  (s_STILL:i_STILL.size<=aj)
  (v_STILL:aR (bb.map V.str) i_STILL.toList)
  (g_HUSH:bT K bH "HUSH"=some (some (.ref a_HUSH)))
  (l_HUSH:K.lookup a_HUSH=some o_HUSH)
  (c_HUSH:o_HUSH.cls=.type "tuple")
  (d_HUSH:o_HUSH.data=.seq i_HUSH n_HUSH)
  (s_HUSH:i_HUSH.size<=aj)
  (v_HUSH:aR (bF.map V.str) i_HUSH.toList)
  (g_BLAME:bT K bH "BLAME"=some (some (.ref a_BLAME)))
  (l_BLAME:K.lookup a_BLAME=some o_BLAME)
  (c_BLAME:o_BLAME.cls=.type "tuple")
  (d_BLAME:o_BLAME.data=.seq i_BLAME n_BLAME)
  (s_BLAME:i_BLAME.size<=aj)
  (v_BLAME:aR (dF.map V.str) i_BLAME.toList)
  (g_END:bT K bH "END"=some (some (.ref a_END)))
  (l_END:K.lookup a_END=some o_END)
  (c_END:o_END.cls=.type "tuple")
  (d_END:o_END.data=.seq i_END n_END)
  (s_END:i_END.size<=aj)
  (v_END:aR (fK.map V.str) i_END.toList)
  (T:Ts K C Ck Cd)
 :∃fd:kb,(∀(s:Shared) (v:Value),sw s fd ⟨[v],[]⟩ [("script",v)])/\∀base:Heap,K.In base->base.Ns bH mg->lm l.prog w K mg base CX0 28 fa fd ["script"] (sp_law49 K):=by
 have z:Zs mg:=⟨gZ X G z_all,gZ X G z_dict,gZ X G z_divmod,gZ X G z_enumerate,gZ X G z_len,gZ X G z_list,gZ X G z_range,gZ X G z_reversed,gZ X G z_sorted,gZ X G z_sum,gZ X G z_tuple,gZ X G z_zip⟩;have c:Cs K mg C Ck Cd a_STILL a_HUSH a_BLAME a_END:=⟨⟨_,dU X G g_LETTERS,r_LETTERS⟩,⟨_,dU X G g_LONGEST_NAME,r_LONGEST_NAME⟩,⟨_,dU X G g_MOST_WORDS,r_MOST_WORDS⟩,⟨_,dU X G g_MOST_ROOMS,r_MOST_ROOMS⟩,⟨_,dU X G g_MOST_DOORS,r_MOST_DOORS⟩,⟨_,dU X G g_DEEPEST,r_DEEPEST⟩,⟨_,dU X G g_MOST_WITHIN,r_MOST_WITHIN⟩,⟨_,dU X G g_MOST_TRIALS,r_MOST_TRIALS⟩,⟨_,dU X G g_STILL,rfl⟩,⟨_,dU X G g_HUSH,rfl⟩,⟨_,dU X G g_BLAME,rfl⟩,⟨_,dU X G g_END,rfl⟩,r8 l_STILL c_STILL d_STILL s_STILL v_STILL,r8 l_HUSH c_HUSH d_HUSH s_HUSH v_HUSH,r8 l_BLAME c_BLAME d_BLAME s_BLAME v_BLAME,r8 l_END c_END d_END s_END v_END,⟨⟨pg,hd,po,sa⟩,na1,na2,na3,na4,na5,na6,na7,na8⟩,dU X G aC,mk,kc,⟨⟨pgksc,hdksc,poksc,saksc⟩,nksc1,nksc2⟩,dU X G aksc,mkksc,kcksc,⟨⟨pgdc,hddc,podc,sadc⟩,ndc1,ndc2,ndc3⟩,dU X G adc,mkdc,kcdc⟩;obtain⟨f,fd,e,b,k⟩:=IC (P:=l.prog) (w:=w) X G z c T;have e0:=hfa.symm.trans e;cases e0;exact⟨fd,b,fun base _ _=>k base⟩
end
end Mum
namespace PySem.W.Fast
def tw1632979792061799505:=0
def tw941285688333444765:=0
def tw9641742805420649550:=0
def tw17611392769028273833:=0
def tw6310591587898587805:=0
def tw11493227825255144120:=0
def tw17972144043169509200:=0
def tw4982215390497505032:=0
def tw3783523147574638387:=0
def tw13680567280599938800:=0
def tw9778743963622072038:=0
def tw3607611132927268458:=0
def tw18249969540596410210:=0
def tw18120552351812001771:=0
def tw626097223771184765:=0
def tw10752701943261367403:=0
def tw1118419886029279503:=0
def tw4333728180634284900:=0
def tw1682128180507417010:=0
def tw18284266493465208555:=0
def tw10614494996148595131:=0
def tw17505948883173467604:=0
def tw1302282509831962513:=0
def tw2884876258171785499:=0
def tw9447526432776070237:=0
def tw9969614684192111754:=0
def tw12290450335936867238:=0
def tw7683460774946909432:=0
def tw2045865979762639537:=0
def tw14839230488537807522:=0
def tw6073380443970281249:=0
def tw3624729180900790485:=0
def tw329889689057834439:=0
def tw9478740030102815247:=0
def tw15622854145439663573:=0
def tw5894365548097014250:=0
def tw13348991038359545244:=0
def tw5836970786391147716:=0
def tw16357304317234929782:=0
def tw1651098839645746624:=0
def tw602337421517244001:=0
def tw17318102296563976274:=0
def tw4801387092101810956:=0
def tw9822504522491659421:=0
def tw15751547163693924541:=0
def tw1247960469351876476:=0
def tw8748838878183493424:=0
def tw2968296921204300773:=0
def tw9607129917052533406:=0
def tw15440222797265798135:=0
def tw17907965701565230926:=0
def tw14072152157955903523:=0
def tw16545322796148208669:=0
def tw14042804179636164927:=0
def tw17511153470056859711:=0
def tw13082304499966707309:=0
def tw17213654735745793591:=0
def tw2231578465497413522:=0
def tw14381686652424644870:=0
def tw3956453994148794024:=0
def tw2059525189273890718:=0
def tw798500733156956439:=0
def tw15669232387628231565:=0
def tw5606104803977625065:=0
def tw16111866805692059540:=0
def tw3117971838479832712:=0
def tw2141924571769658848:=0
def tw11849437772029299456:=0
def tw5431943285030713975:=0
def tw17159645353256430225:=0
def tw4488907217177109699:=0
def tw3045982270638433460:=0
def tw14030890253115589089:=0
def tw11397996146490343171:=0
def tw321610359562034460:=0
def tw7681761993555029547:=0
def tw16339972842114085245:=0
def tw13275683972782423579:=0
def tw6985395697538231531:=0
def tw9393867821873368395:=0
def tw10817886494667793051:=0
def tw9363130032298945743:=0
def tw7471941772912165226:=0
def tw3800385856377427747:=0
def tw17000696587408857302:=0
def tw2292325526796458129:=0
def tw9795630911412839816:=0
def tw1757330092548747168:=0
def tw15625526994943981245:=0
def tw16143484100117252798:=0
def tw13843595487462133975:=0
def tw6450491413348610639:=0
def tw17008929297538343618:=0
def tw10446193458399597128:=0
def tw18115812966154767488:=0
def tw7374883453746938573:=0
def tw2816276908627480269:=0
def tw11860441212632294292:=0
def tw392706783402030888:=0
def tw1517556962287185276:=0
def tw13327811732140280870:=0
def tw2660620631925969929:=0
def tw6919558651527487078:=0
def tw6467979489730644215:=0
def tw9986578156092572096:=0
def tw16144614201647022961:=0
def tw10153403408571362652:=0
def tw9737145157492863761:=0
def tw6940506193612714622:=0
def tw478755651544563003:=0
def tw17164654486458408051:=0
def tw15348884689990206229:=0
def tw4619129759084590937:=0
def tw156396097690395544:=0
def tw16730633030571350859:=0
def tw14240538075858325401:=0
def tw10841860037379459624:=0
def tw17599493161970894338:=0
def tw325880493863447574:=0
def tw8484696274084904456:=0
def tw16117465559406324490:=0
def tw13741860140678227969:=0
def tw2472103162678622288:=0
def tw2739859149295027775:=0
def tw5223464006243273115:=0
def tw4460578184594345161:=0
def tw13555374420299834541:=0
def tw9666079333708279306:=0
def tw5825532417721748673:=0
def tw8866590457410719173:=0
def tw12205819264698939403:=0
def tw3698893988518221210:=0
def tw13311728014706365615:=0
def tw7075663819309626193:=0
def tw17083047169914478008:=0
def tw5948977618549784054:=0
def tw13514710491966889544:=0
def tw16522922430964620223:=0
def tw6128235092519071058:=0
def tw13878600075419484048:=0
def tw948480615701078370:=0
def tw12715572043070161779:=0
def tw17393795028806841601:=0
def tw7350354904739581280:=0
def tw10438713718464091203:=0
def tw6374942661677173557:=0
def tw12013762279254936278:=0
def tw2461047668146991108:=0
def tw5553211559399500424:=0
def tw6651031202959101146:=0
def tw18061367078490008508:=0
def tw15264868168795989676:=0
def tw13756333223140038576:=0
def tw5610725986394067930:=0
def tw13563441959537357922:=0
def tw9193198913050413106:=0
def tw5540771312894749029:=0
def tw16442663717229748501:=0
def tw16896401586398604083:=0
def tw17062711837636840888:=0
def tw2815478946011837972:=0
def tw13907981115828350124:=0
def tw15044638559133710911:=0
def tw15120982945833007070:=0
def tw9351827074917254618:=0
def tw2219349715697502180:=0
def tw14502020445578281344:=0
def tw14532635509917223963:=0
def tw15567478502488589030:=0
def tw803151495110306236:=0
def tw10223497379293019641:=0
def tw9054398597888251599:=0
def tw13498948556917323973:=0
def tw6065431757774231214:=0
def tw15065067392003567311:=0
def tw14868904998020318929:=0
def tw13468642507218243519:=0
def tw9158080674748329:=0
def tw12921710645634910381:=0
def tw7136397142924583545:=0
def tw11591089440283574661:=0
def tw8886780173056107436:=0
def tw18387081042424249361:=0
def tw9787904786660118487:=0
def tw14028525943093858603:=0
def tw2504760427012210629:=0
def tw6784024845721663969:=0
def tw11802915371400297656:=0
def tw14796978795427740919:=0
def tw9243248292692902026:=0
def tw6313398716997236391:=0
def tw4017725399453784633:=0
def tw17582762933038648412:=0
def tw11755669901015076565:=0
def tw11956341606597709551:=0
def tw6031829617038329432:=0
def tw17732781938127920796:=0
def tw5933814686917128722:=0
def tw8870205866517244027:=0
def tw10105788247855733897:=0
def tw1093383204406604610:=0
def tw10938789207396715091:=0
def tw6503897576680450118:=0
def tw10523807705419892765:=0
def tw742993294776496379:=0
def tw9514885344385851734:=0
def tw5861776994833756749:=0
def tw674009968690430823:=0
def tw11767713341251688221:=0
def tw13561863055268328684:=0
def tw9999266725988499967:=0
def tw5828623113994465939:=0
def tw8058885311585293667:=0
def tw17184475767721996418:=0
def tw16398435595746881174:=0
def tw1334070854771340508:=0
def tw15092981608765357025:=0
def tw12167441000704934637:=0
def tw6440188813594127891:=0
def tw3589457078584203209:=0
def tw18091385534645649366:=0
def tw13042865572389250271:=0
def tw11119735885923173621:=0
def tw12467277517420850462:=0
def tw6924378297513755680:=0
def tw3414907248106868625:=0
def tw9070270004462188040:=0
def tw5785046443415075072:=0
def tw17417705796407933995:=0
def tw11272451797386174600:=0
def tw7587669880277823984:=0
def tw71919368813460966:=0
def tw10215642438832914577:=0
def tw12227852709299805528:=0
def tw1070244541980450150:=0
def tw17310868421398334602:=0
def tw10214784995190363237:=0
def tw9979875858944393617:=0
def tw13095908855293312353:=0
def tw3969177630414604081:=0
def tw16751148006627210728:=0
def tw9493784023068360697:=0
def tw14396304351426249065:=0
def tw9242568013799566506:=0
def tw15487027002796629455:=0
def tw2647723756841305771:=0
def tw290284218116812444:=0
def tw15280658955764517199:=0
def tw10677489994639320046:=0
def tw15486322647808331568:=0
def tw5324909830477998656:=0
def tw13986655753834097625:=0
def tw512888006896822906:=0
def tw10122345889032195719:=0
def tw4051150309436889041:=0
def tw7069394938220569721:=0
def tw10803985231749042131:=0
def tw2290703595381635917:=0
def tw16196999658603380742:=0
def tw9318070379058995864:=0
def tw17811558245918767880:=0
def tw1917404473947607207:=0
def tw16952720727063776940:=0
def tw12904239240221426045:=0
def tw3722885783090856496:=0
def tw9125977360896147863:=0
def tw7478604431347143461:=0
def tw2653290975497778934:=0
def tw6407309261519485364:=0
def tw15594199880582875269:=0
def tw5112306730998573187:=0
def tw14711910598241213938:=0
def tw785780491674395015:=0
def tw8246049176981690881:=0
def tw10416212410325457686:=0
def tw10286563825140539513:=0
def tw12208525469442408338:=0
def tw15050487288575761524:=0
def tw7979772818308121869:=0
def tw12712251431743343070:=0
def tw7041964388729073541:=0
def tw11140638792151447322:=0
def tw16761657695218787281:=0
def tw1736233117409290888:=0
def tw4887437346768492937:=0
def tw13637194508502530765:=0
def tw4896588723188419901:=0
def tw7554659796476034917:=0
def tw14927294167815184784:=0
def tw7163038531576678982:=0
def tw6242113195909663865:=0
def tw42414566483563545:=0
def tw5140256083056430535:=0
def tw16103743466028131042:=0
def tw12819630262773576415:=0
def tw16644673242129658484:=0
def tw3040859682645390343:=0
def tw15960672053714250744:=0
def tw8965294430446396639:=0
def tw1163929860647835438:=0
def tw1465127259213369625:=0
def tw3934532411787758457:=0
def tw18153442976753771585:=0
def tw1481177420453258189:=0
def tw7061055390369492565:=0
def tw4430840795620513291:=0
def tw16022897557412638431:=0
def tw4685284520596260102:=0
def tw15411841040378387664:=0
def tw15507835145688981953:=0
def tw7153024787800244004:=0
def tw15636803592226251567:=0
def tw3039345764253114298:=0
def tw10864822121694624497:=0
def tw8487724606284802198:=0
def tw18246208146062308723:=0
def tw13142311215301886056:=0
def tw10894234805147260247:=0
def tw7006405264313232463:=0
def tw10363973382623392698:=0
def tw9014255999039671718:=0
def tw15904781719389933052:=0
def tw7693439787268517760:=0
def tw81897356657275955:=0
def tw15045213457445079625:=0
def tw13479581970054953734:=0
def tw5766232792450727641:=0
def tw8355581275432192036:=0
def tw12515924936053823086:=0
def tw8185474752997693928:=0
def tw6287174866176666992:=0
def tw7321035359197548981:=0
def tw13436830810393526435:=0
def tw7067557188156618135:=0
def tw14715682425577222667:=0
def tw4561694201359420630:=0
def tw2373448022038806506:=0
def tw13653803341604379228:=0
def tw3872528010010949637:=0
def tw10989766144612612517:=0
def tw1497386299798577795:=0
def tw17855852164849386325:=0
def tw10676653519862238640:=0
def tw12992648118567145256:=0
def tw4032156123559634734:=0
def tw2024524419603092492:=0
def tw2290888231182971592:=0
def tw681663082558424035:=0
def tw3747821865897097392:=0
def tw1463622686504719679:=0
def tw2493896723322686742:=0
def tw7205439983969172361:=0
def tw2467870918366085929:=0
def tw18299243868018047685:=0
def tw4788600638288465139:=0
def tw5680180183775964481:=0
def tw579506342930502396:=0
def tw2313059721572686894:=0
def tw10202907800606996896:=0
def tw11828714827083137636:=0
def tw7309966718919495597:=0
def tw16398022307703390742:=0
def tw16522186953009738838:=0
def tw10698288308414162590:=0
def tw4509468955870530029:=0
def tw7048072256995946672:=0
def tw6682868792552750037:=0
def tw1010828139962271603:=0
def tw15821688671933890311:=0
def tw4496401043608465565:=0
def tw14757323256352035687:=0
def tw12877404913825944198:=0
def tw8507108660088546182:=0
def tw15158072124410961852:=0
def tw11914219389383841360:=0
def tw3222802150505574203:=0
def tw4327934837197542408:=0
def tw10571361095484771981:=0
def tw7902399911123319073:=0
def tw18387623970744720126:=0
def tw13346367840976271144:=0
def tw2053880245473902285:=0
def tw15959359019401290083:=0
def tw3826438030277008217:=0
def tw14731024345983826243:=0
end PySem.W.Fast
open PySem PySem.W PyProof.Rows
set_option maxRecDepth 100000 in
set_option maxHeartbeats 0 in
theorem PySem.Challenge.cw_mumtrial_k49_deeper_ones_in_order_holds : PySem.Challenge.rw_mumtrial_k49_deeper_ones_in_order.Holds := by
 w_on;o_law;k_head;(case hw=>w_witness2)
 k_fill
 refine L2.walk_ofK (l:=PySem.Challenge.rw_mumtrial_k49_deeper_ones_in_order) (n:=63) (k:=28) (x:="script") (CX:=L2.CX0) (sp:=Mum.sp_law49) rfl (by decide) rfl ⟨rfl,by decide,by decide⟩ (fun w h Y=>PySem.W.kIn_of Y) ?F (fun _ _ a ns hl _ hS=>⟨a,ns,rfl,hS,hl,fun _=>rfl⟩) (fun _ _ _ _ z=>z)
 case F =>
  intro w mg fa h KX G hmg;refine' Mum.all_mk KX G hmg ?aC ?pg ?hd ?po ?sa ?mk ?kc ?na1 ?na2 ?na3 ?na4 ?na5 ?na6 ?na7 ?na8 ?aksc ?pgksc ?hdksc ?poksc ?saksc ?mkksc ?kcksc ?nksc1 ?nksc2 ?adc ?pgdc ?hddc ?podc ?sadc ?mkdc ?kcdc ?ndc1 ?ndc2 ?ndc3 ?z_all ?z_dict ?z_divmod ?z_enumerate ?z_len ?z_list ?z_range ?z_reversed ?z_sorted ?z_sum ?z_tuple ?z_zip ?g_LETTERS ?r_LETTERS ?g_LONGEST_NAME ?r_LONGEST_NAME ?g_MOST_WORDS ?r_MOST_WORDS ?g_MOST_ROOMS ?r_MOST_ROOMS ?g_MOST_DOORS ?r_MOST_DOORS ?g_DEEPEST ?r_DEEPEST ?g_MOST_WITHIN ?r_MOST_WITHIN ?g_MOST_TRIALS ?r_MOST_TRIALS ?g_STILL ?l_STILL ?c_STILL ?d_STILL ?s_STILL ?v_STILL ?g_HUSH ?l_HUSH ?c_HUSH ?d_HUSH ?s_HUSH ?v_HUSH ?g_BLAME ?l_BLAME ?c_BLAME ?d_BLAME ?s_BLAME ?v_BLAME ?g_END ?l_END ?c_END ?d_END ?s_END ?v_END ?T
  (case aC|pg|hd|po|sa|mk|kc|na1|na2|na3|na4|na5|na6|na7|na8|aksc|pgksc|hdksc|poksc|saksc|mkksc|kcksc|nksc1|nksc2|adc|pgdc|hddc|podc|sadc|mkdc|kcdc|ndc1|ndc2|ndc3|z_all|z_dict|z_divmod|z_enumerate|z_len|z_list|z_range|z_reversed|z_sorted|z_sum|z_tuple|z_zip|g_LETTERS=>k_is)
  (case r_LETTERS=>exact⟨_,rfl⟩)
  (case g_LONGEST_NAME=>k_is)
  (case r_LONGEST_NAME=>exact⟨_,rfl⟩)
  (case g_MOST_WORDS=>k_is)
  (case r_MOST_WORDS=>exact⟨_,rfl⟩)
  (case g_MOST_ROOMS=>k_is)
  (case r_MOST_ROOMS=>exact⟨_,rfl⟩)
  (case g_MOST_DOORS=>k_is)
  (case r_MOST_DOORS=>exact⟨_,rfl⟩)
  (case g_DEEPEST=>k_is)
  (case r_DEEPEST=>exact⟨_,rfl⟩)
  (case g_MOST_WITHIN=>k_is)
  (case r_MOST_WITHIN=>exact⟨_,rfl⟩)
  (case g_MOST_TRIALS=>k_is)
  (case r_MOST_TRIALS=>exact⟨_,rfl⟩)
  (case g_STILL|l_STILL=>k_is)
  (case c_STILL|d_STILL=>rfl)
  (case s_STILL=>decide)
  (case v_STILL=>exact .cons ⟨_,rfl⟩ .nil)
  (case g_HUSH|l_HUSH=>k_is)
  (case c_HUSH|d_HUSH=>rfl)
  (case s_HUSH=>decide)
  (case v_HUSH=>exact .cons ⟨_,rfl⟩ .nil)
  (case g_BLAME|l_BLAME=>k_is)
  (case c_BLAME|d_BLAME=>rfl)
  (case s_BLAME=>decide)
  (case v_BLAME=>exact .cons ⟨_,rfl⟩ .nil)
  (case g_END|l_END=>k_is)
  (case c_END|d_END=>rfl)
  (case s_END=>decide)
  (case v_END=>exact .cons ⟨_,rfl⟩ .nil)
  (case T=>constructor<;>first|(refine' Mum.fnG_mk ?a ?l ?c ?k;(case a=>k_is);(case l=>k_is);(case c=>k_is);(case k=>k_is))|(refine' Mum.fnM_mk ?a ?i ?l ?c ?k;(case a=>k_is);(case i=>k_is);(case l=>k_is);(case c=>k_is);(case k=>k_is)))
