
import PyProof.Rows.All
import Wide.All
import OpenK.AllK
import Wide.FinOn
import Lean
import PyProof.EqAt
import PyProof.EqKinds
import PyProof.TupleCall
import PyProof.NeKinds
import PyProof.RaisesMany
import PyProof.RulesAs
import PyProof.NsDelKeeps
import PyProof.InstStoreFacts
import PyProof.ExcClass3
import PyProof.ExcInit
import KE.KTryMore
import PyProof.AutoSeq1
import PyProof.WalkInts
import PyProof.Toks
import PyProof.PureStr
import PyProof.FitsReplace
import PySem.Challenge.RW_mumtrial_k88_rows_bent
noncomputable section
open PySem renaming Program->bF,reduceHash->Ev,wpAny_mono->dF,wpAny_bind->ar,wpAny_specialOf->GG,wpAny_call_entry->C9,wpAny_pure->be,wpAny_rule->rk,Builtin->cT,isInstance->y8,wpAny_holding->kW,wpAny_truthy_bool->nW,wpAny_seqItems->mD,sizeLine->ao,sysModules->jI,Within->y6,mainGlobals->cb,bootBuiltins->je,spliced->vC,starEach->aB,compareOp->eG,behindInMarks->kK,standAt->vB,holding->nS,wpAny_execs_nil->rf,wpAny_execs_cons->B3,swapsWith->mz,assignEach->rc,wpAny_standAt->q_,PassesOwn->B2,wpAny_passesOwn->kJ,letOwnedTupleGo->B1,wpAny_pyIter_list->B0,wpAny_pyIter_tuple->BZ,foldedSetIterable->vA,binaryOp->nR,sizeLine_eq->vy,getAttr->yY,getMethod->vx,codeAny->zzl88,attributeBase->sO,FuncData->fe,BindsTo->mZ,wpAny_call->mY,codeAny_mono->pN,wpAny_Call_Name_kw->lg,callWith->wY,backToKw->mW,keywordEach->mV,NameKind->gm,mem_of_lookup->pM,typeLookup->pK,getItem->mS,subscripted->wV,typeIs_str->wU,sliceBounds->mR,Keyword->pJ,call_meets->k7,valueAt->mQ,callerA->k6,noteFrame->j5,wpAny_newObj_type->s_,ZipApart->pF,wpAny_pyIter_zip->wO,wpAny_callSpecial?_slot->wN,wpAny_field->cx,wpAny_setField->ju,wpAny_setField_rec->pE,wpAny_onRaise->sY,wpAny_letGo->wJ,setFlight->j3,excClassObj->g_,checkBuiltinCall->wE,wpAny_loadPart_at->jZ,wpAny_isSubtype_exc->sU,ExceptHandler->wC
open PySem.Builtin.Tuple renaming tupleHashOf->Aq
open PySem.Value renaming builtin->Ap
open Bool renaming false_ne_true->jG,not_true->B6,false_eq_true->tf,false_and->y0,eq_iff_iff->q0,and_eq_true->iF,and_false->wH,true_and->kQ
open Nat renaming add_assoc->vD,le_refl->aG,lt_of_lt_of_le->ft,lt_irrefl->mC,ne_of_lt->cw,le_trans->aP,le_of_lt->c6,ne_of_gt->eV,zero_le->cf,le_succ->hV,lt_of_le_of_lt->wQ,sub_zero->sV,not_le_of_lt->fP,min_eq_left->mO,min_eq_right->wx,mod_lt->sT
open List renaming append_nil->dA,range->nV,mem_filter->iC,filterMap_cons->nU,mem_cons_self->bR,mem_cons_of_mem->bQ,mem_cons->bw,mem_append->bu,mem_append_left->cL,getElem?_eq_some_iff->dg,getElem?_set_self->B5,getElem?_set_ne->y4,mem_append_right->dI,length_cons->bP,lookup->jd,map_cons->aS,length_map->aq,nodup_cons->jw,of_mem_zip->tw,replicate->lf,length_take->aL,getElem?_append_right->pL,getElem?_append_left->k_,getElem?_map->bD,mem_of_getElem?->ca,length_append->aV,length_replicate->wW,length_drop->fc,size_toArray->b_,length_set->jv,find?_cons->pI,any_cons->wS,cons_append->j7,length_nil->pH,nodup_nil->j6,lookup_cons->hU,forIn_cons->tj,mem_map->aR,not_mem_nil->iE,any_toArray->wG,drop_zero->kT,take_length->cO,getElem?_eq_getElem->ef,all_cons->sW,all_map->mP,mem_singleton->pD,map_append->aK,nodup_append->fQ,drop_of_length_le->pC,drop_eq_getElem_cons->j4,contains_cons->jt,take_of_length_le->pB,map_take->jY,map_drop->kS,map_set->jX,foldl_cons->mN,drop_length->kR,mem_of_mem_take->fM,mem_of_mem_drop->sS,append_assoc->dU,map_map->eZ,sum_cons->c8,mem_map_of_mem->pk,take_append_drop->ww,foldl_append->sR,length_filter_le->jW,filter_append->sQ,getD_eq_getElem?_getD->sP,map_eq_nil_iff->mM,count_append->pj,mem_or_eq_of_mem_set->wv
open Option.some renaming inj->d4
open PySem.W renaming instObj->rh,lookIn->BX,plainGet->yZ,hasDictIn->BW,findIn->cc,isFn->nQ,makesIn->yX,emptyDict->nO,keepIn->eF,specialIn->BV,kitOne->yW,kia_one->jF,callWith_K->tz,fnOf->iG,codeIn->mU,exmOne->wB,nsIn->cI,mg_of->eX,mg_none_of->g8
open PySem.Heap renaming lt_size->aQ,SameBut->jH,get?_push_of_some->bh,get?_push_size->dJ,size_push->kP,get?_update_self->hW,get?_update_other->fG
open PyProof.Rows renaming AllBare->mB,callWith_type1->BY,IntsAre->tp,boot_all->wq
open Ne renaming symm->cZ
open PySem.Calls renaming Constant_str->B4,spliced_cons->lh,callWith_builtin->wT
open Array renaming length_toList->rg,getElem?_eq_some_iff->e_
open False renaming elim->df
open PySem.Builtin.Str renaming occurrences->vz,strSliceIndices->sX,strKind->wA
open True renaming intro->eU
open Option renaming isSome_iff_exists->wX,map_some->tq,map_eq_some_iff->pG
open Int renaming toNat_natCast->mT,emod_nonneg->pA,emod_lt_of_pos->pq,eq_ofNat_of_zero_le->fO
open PySem.Obj renaming mapSeq->tu,isFreed_of_fields->kU,data_mapFields->hJ,mapFields->c9
open PySem.Paired renaming snoc->wR
open ForInStep renaming yield->wP
open PySem.NameKind renaming free->kZ
open PySem.Builtin.SmallTypes renaming nextOf->kY,ownedTupleIsFree->wK
open PySem.Str renaming ofString->wM
open PySem.F renaming slot_tuple_iterator_next->wL,slot_zip_next->wI,plainAttrs_str->iD,slot_str_join->wu,type_str_join->wt,plainAttrs_list->fF,slot_list_append->js,type_list_append->jr,slot_str_split->pi,type_str_split->ph
open PySem.Heap.SameBut renaming update->sZ
open PySem.SeqAt renaming EqAt->bp
open PySem.Txt renaming join->eg,split->bE,replace->g9
open PySem.EntryCells renaming newEntry->wF
open PySem.Builtin.ObjectAttr renaming storeInDict->wD
open PySem.PassesOwn renaming never->cr
theorem Q0:0<=PySem.sizeLine:=by decide
theorem Q1:1<=PySem.sizeLine:=by decide
theorem Q2:2<=PySem.sizeLine:=by decide
theorem Q3:3<=PySem.sizeLine:=by decide
theorem Q4:4<=PySem.sizeLine:=by decide
theorem Q6:6<=PySem.sizeLine:=by decide
theorem zzr0{p:Prop}[Decidable p](h:¬p):decide p=false:=decide_eq_false h
theorem zzr1{p:Prop}[Decidable p](h:p):decide p=true:=decide_eq_true h
abbrev Za:=PySem.W.Frag
abbrev Zb:=List PySem.Str
abbrev Zc:=PySem.Value->PySem.Shared->Prop
abbrev Zd:=List (PySem.Addr×PySem.Obj)
abbrev Ze:=List PySem.Addr
abbrev Zf:=List PySem.Value
section
set_option Elab.async false
set_option linter.all false
set_option maxRecDepth 100000
set_option maxHeartbeats 4000000
namespace L2
open PySem PySem.Spec PyProof.Rows
open Sem (wp)
abbrev eE:=Sum Int Str
def dD:eE->Value->Bool
 |.inl k,v=>Value.isInt k v
 |.inr x,v=>Value.isStrOf x v
def KA(w:World):eE->Int
 |.inl k=>hashInt k
 |.inr x=>hashStr w x
theorem aD:∀{k:eE}{v:Value},dD k v=true->(∃i t,k=Sum.inl i/\v=Value.int i t)∨(∃x t,k=Sum.inr x/\v=Value.str x t)
 |.inl i,v,h=>by
  obtain⟨t,e⟩:=Value.isInt_shape (k:=i) (v:=v) h;exact .inl ⟨i,t,rfl,e⟩
 |.inr x,v,h=>by
  obtain⟨t,e⟩:=Value.isStrOf_shape (x:=x) (v:=v) h;exact .inr ⟨x,t,rfl,e⟩
theorem md(i:Int)(t:Tok):dD (.inl i) (.int i t)=true:=by simp[dD,Value.isInt]
theorem ma(x:Str)(t:Tok):dD (.inr x) (.str x t)=true:=by simp[dD,Value.isStrOf]
theorem xZ(a b:Int):decide ((Sum.inl a:eE)=Sum.inl b)=(a==b):=by
 by_cases e:a=b
 ·subst e;simp
 ·have h:¬(Sum.inl a:eE)=Sum.inl b:=fun q=>e (Sum.inl.inj q);rw[zzr0 h];exact(beq_eq_false_iff_ne.mpr e).symm
theorem xW(a b:Str):decide ((Sum.inr a:eE)=Sum.inr b)=decide (a=b):=by
 by_cases e:a=b
 ·subst e;simp
 ·have h:¬(Sum.inr a:eE)=Sum.inr b:=fun q=>e (Sum.inr.inj q);rw[zzr0 h,zzr0 e]
theorem xY(a:Int)(b:Str):decide ((Sum.inl a:eE)=Sum.inr b)=false:=zzr0 (fun q=>nomatch q)
theorem xX(a:Str)(b:Int):decide ((Sum.inr a:eE)=Sum.inl b)=false:=zzr0 (fun q=>nomatch q)
def cF(prog:bF)(w:World):PySem.KeyKind prog w eE where
 is:=dD
 hash:=KA w
 inj:=fun v a b ha hb=>by
  rcases aD ha with⟨i,t,rfl,rfl⟩|⟨x,t,rfl,rfl⟩
  ·rcases aD hb with⟨j,u,rfl,e⟩|⟨y,u,rfl,e⟩
   ·injection e with e1 _;rw[e1]
   ·exact nomatch e
  ·rcases aD hb with⟨j,u,rfl,e⟩|⟨y,u,rfl,e⟩
   ·exact nomatch e
   ·injection e with e1 _;rw[e1]
 byValue:=fun k v h=>by
  rcases aD h with⟨i,t,rfl,rfl⟩|⟨x,t,rfl,rfl⟩<;>rfl
 pyHash:=fun hv h=>by
  rcases aD hv with⟨i,t,rfl,rfl⟩|⟨x,t,rfl,rfl⟩
  ·exact wpAny_pyHash_int h
  ·exact wpAny_pyHash_str h
 eqBool:=fun hu hv h=>by
  rcases aD hu with⟨i,t,rfl,rfl⟩|⟨x,t,rfl,rfl⟩
  ·rcases aD hv with⟨j,u,rfl,rfl⟩|⟨y,u,rfl,rfl⟩
   ·rw[xZ]at h;exact wpAny_eqBool_int h
   ·rw[xY]at h;exact bp.int_str i t y u _ _ _ _ h
  ·rcases aD hv with⟨j,u,rfl,rfl⟩|⟨y,u,rfl,rfl⟩
   ·rw[xX]at h;exact bp.str_int x t j u _ _ _ _ h
   ·rw[xW]at h;exact wpAny_eqBool_str h
 «strs»:=fun k x t v h=>by
  rcases aD h with⟨i,u,rfl,e⟩|⟨y,u,rfl,e⟩
  ·exact nomatch e
  ·injection e with e1 _;subst e1;cases v<;>rfl
theorem zQ(a:bF)(w:World)(i:Int)(t:Tok):(cF a w).is (.inl i) (.int i t)=true:=md i t
theorem zP(a:bF)(w:World)(x:Str)(t:Tok):(cF a w).is (.inr x) (.str x t)=true:=ma x t
end L2
namespace L2
open PySem PySem.Spec PyProof.Rows
open Sem (wp)
abbrev nI:=Option eE
def iS:nI->Value->Bool
 |none,v=>match v with
  |.none=>true
  |_=>false
 |some k,v=>dD k v
def Iu(w:World):nI->Int
 |none=>Ev 4238894112
 |some k=>KA w k
theorem bV:∀{k:nI}{v:Value},iS k v=true->(∃i t,k=some (Sum.inl i)/\v=Value.int i t)∨(∃x t,k=some (Sum.inr x)/\v=Value.str x t)∨(k=none/\v=Value.none)
 |none,v,h=>by
  refine .inr (.inr ⟨rfl,?_⟩);cases v<;>first|rfl|cases h
 |some k,v,h=>by
  rcases aD (show dD k v=true from h)with⟨i,t,rfl,rfl⟩|⟨i,t,rfl,rfl⟩
  ·exact .inl ⟨i,t,rfl,rfl⟩
  ·exact .inr (.inl ⟨i,t,rfl,rfl⟩)
theorem ut{a b:nI}{v:Value}(f:iS a v=true)(g:iS b v=true):a=b:=by
 rcases bV f with⟨i,t,rfl,rfl⟩|⟨i,t,rfl,rfl⟩|⟨rfl,rfl⟩<;>rcases bV g with⟨j,u,rfl,e⟩|⟨j,u,rfl,e⟩|⟨rfl,e⟩<;>first|rfl|(cases e;rfl)|cases e
def zN(prog:bF)(w:World):PySem.KeyKind prog w nI where
 is:=iS
 hash:=Iu w
 inj:=fun v a b ha hb=>ut ha hb
 byValue:=fun k v h=>by
  rcases bV h with⟨i,t,rfl,rfl⟩|⟨x,t,rfl,rfl⟩|⟨rfl,rfl⟩<;>rfl
 pyHash:=fun{A E s k v Q} hv h=>by
  rcases bV hv with⟨i,t,rfl,rfl⟩|⟨x,t,rfl,rfl⟩|⟨rfl,rfl⟩
  ·exact wpAny_pyHash_int h
  ·exact wpAny_pyHash_str h
  ·refine PySem.W.pyHash_slot (T:="NoneType") rfl F.slot_NoneType_hash F.entry_NoneType_hash (F.args_NoneType_hash_1 _) (by rw[beq_builtin_none]) (.inl rfl) ?_;show wpAny _ _ (retInt 4238894112) _ _ _;refine dF (wpAny_ret_mkInt (Q:=fun v s'=>∃n t,v=Value.int n t/\Q (Ev n) s') ⟨_,_,rfl,h⟩) (fun fin s' ⟨v,e,n,t,e2,q⟩=>⟨n,t,by rw[e,e2],q⟩) (fun _ _ z=>z)
 eqBool:=fun{A E s a b u v Q} hu hv h=>by
  rcases bV hu with⟨i,t,rfl,rfl⟩|⟨x,t,rfl,rfl⟩|⟨rfl,rfl⟩
  ·rcases bV hv with⟨j,u,rfl,rfl⟩|⟨y,u,rfl,rfl⟩|⟨rfl,rfl⟩
   ·exact(cF prog w).eqBool (a:=.inl i) (b:=.inl j) (md i t) (md j u) (by rw[show decide ((Sum.inl i:eE)=Sum.inl j)=decide ((some (Sum.inl i):nI)=some (Sum.inl j))from decide_eq_decide.mpr ⟨fun z=>by rw[z],fun z=>by injection z⟩];exact h)
   ·rw[zzr0 (by intro z;injection z with z;cases z)]at h;exact bp.int_str i t y u _ _ _ _ h
   ·rw[zzr0 (by intro z;cases z)]at h;exact bp.int_none i t _ _ _ _ h
  ·rcases bV hv with⟨j,u,rfl,rfl⟩|⟨y,u,rfl,rfl⟩|⟨rfl,rfl⟩
   ·rw[zzr0 (by intro z;injection z with z;cases z)]at h;exact bp.str_int x t j u _ _ _ _ h
   ·exact(cF prog w).eqBool (a:=.inr x) (b:=.inr y) (ma x t) (ma y u) (by rw[show decide ((Sum.inr x:eE)=Sum.inr y)=decide ((some (Sum.inr x):nI)=some (Sum.inr y))from decide_eq_decide.mpr ⟨fun z=>by rw[z],fun z=>by injection z⟩];exact h)
   ·rw[zzr0 (by intro z;cases z)]at h;exact bp.str_none x t _ _ _ _ h
  ·rcases bV hv with⟨j,u,rfl,rfl⟩|⟨y,u,rfl,rfl⟩|⟨rfl,rfl⟩
   ·rw[zzr0 (by intro z;cases z)]at h;exact bp.none_int j u _ _ _ _ h
   ·rw[zzr0 (by intro z;cases z)]at h;exact bp.none_str y u _ _ _ _ h
   ·rw[zzr1 rfl]at h;exact bp.same _ _ _ _ _ h
 «strs»:=fun k x t v h=>by
  rcases bV h with⟨i,u,rfl,e⟩|⟨y,u,rfl,e⟩|⟨rfl,e⟩
  ·exact nomatch e
  ·injection e with e1 _;subst e1;cases v<;>rfl
  ·exact nomatch e
inductive TK where
 |k (a:nI)
 |t (l:List TK)
mutual
def IF:(x y:TK)->Decidable (x=y)
 |.k a,.k b=>if h:a=b then Decidable.isTrue (by rw[h])else Decidable.isFalse fun e=>h (by injection e)
 |.t l,.t m=>match decTKs l m with
  |Decidable.isTrue h=>Decidable.isTrue (by rw[h])
  |Decidable.isFalse h=>Decidable.isFalse fun e=>h (by injection e)
 |.k _,.t _=>Decidable.isFalse nofun
 |.t _,.k _=>Decidable.isFalse nofun
def decTKs:(x y:List TK)->Decidable (x=y)
 |[],[]=>Decidable.isTrue rfl
 |[],_::_=>Decidable.isFalse nofun
 |_::_,[]=>Decidable.isFalse nofun
 |a::l,b::m=>match IF a b with
  |Decidable.isTrue h=>match decTKs l m with
   |Decidable.isTrue h'=>Decidable.isTrue (by rw[h,h'])
   |Decidable.isFalse h'=>Decidable.isFalse fun e=>h' (by injection e)
  |Decidable.isFalse h=>Decidable.isFalse fun e=>h (by injection e)
end
instance:DecidableEq TK:=IF
mutual
def TK.depth:TK->Nat
 |.k _=>0
 |.t l=>TK.depths l+1
def TK.depths:List TK->Nat
 |[]=>0
 |a::r=>max (TK.depth a) (TK.depths r)
end
mutual
def TK.hash(w:World):TK->Int
 |.k a=>Iu w a
 |.t l=>Ev (Aq (TK.hashs w l))
def TK.hashs(w:World):List TK->List Int
 |[]=>[]
 |a::r=>TK.hash w a::TK.hashs w r
end
mutual
def TK.draws:TK->Nat
 |.k _=>1
 |.t l=>TK.drawss l+1
def TK.drawss:List TK->Nat
 |[]=>0
 |a::r=>TK.draws a+TK.drawss r
end
mutual
def my(h:Heap):TK->Value->Prop
 |.k a,v=>iS a v=true
 |.t l,v=>∃a o items n,v=.ref a/\h.get? a=some o/\o.cls=.type "tuple"/\o.data=.seq items n/\TAts h l items.toList
def TAts(h:Heap):List TK->List Value->Prop
 |[],vs=>vs=[]
 |k::r,vs=>∃v us,vs=v::us/\my h k v/\TAts h r us
end
theorem my.inj{h:Heap}:∀(d:Nat) {x y:TK}{v:Value},x.depth<=d->my h x v->my h y v->x=y:=by
 have w:∀(d:Nat) (s:∀{x y:TK}{v:Value},x.depth<=d->my h x v->my h y v->x=y) (xs i:List TK) (m:Zf),TK.depths xs<=d->TAts h xs m->TAts h i m->xs=i:=by
  intro d s xs
  induction xs with
  |nil =>
   intro i m _ hx f;have z:m=[]:=hx;subst z;cases i with
   |nil=>rfl
   |cons y i=>obtain⟨_,_,e,_⟩:=f;cases e
  |cons x xs B =>
   intro i m p hx f;obtain⟨v,M,rfl,C,D⟩:=hx;cases i with
   |nil=>have E:v::M=[]:=f;cases E
   |cons y i =>
    obtain⟨v',O,e,G,H⟩:=f;cases e;have Q:max x.depth (TK.depths xs)<=d:=p;rw[s (by omega) C G,B i M (by omega) D H]
 have g:∀(a:nI) (l:List TK) (v:Value),my h (.k a) v->my h (.t l) v->False:=by
  intro a l v q I;obtain⟨b,o,items,n,rfl,_⟩:=I;rcases bV (show iS a (.ref b)=true from q)with⟨_,_,_,e⟩|⟨_,_,_,e⟩|⟨_,e⟩<;>cases e
 have N:∀(a b:nI) (v:Value),iS a v=true->iS b v=true->a=b:=fun a b v q I=>ut q I;intro d
 induction d with
 |zero =>
  intro x y v p hx f;cases x with
  |t l=>exact absurd p (by show ¬(TK.depths l+1<=0);omega)
  |k a =>
   cases y with
   |k b=>rw[N a b v hx f]
   |t l=>exact(g a l v hx f).elim
 |succ d s =>
  intro x y v p hx f;cases x with
  |k a =>
   cases y with
   |k b=>rw[N a b v hx f]
   |t l=>exact(g a l v hx f).elim
  |t l =>
   cases y with
   |k b=>exact(g b l v f hx).elim
   |t T =>
    obtain⟨a,o,items,n,rfl,U,hc,J,hi⟩:=hx;obtain⟨a',o',u,n',e,r,Y,j,L⟩:=f;cases e;rw[U]at r;cases r;rw[J]at j;injection j with e1 _;subst e1;rw[w d (fun q=>s q) l T items.toList (by have:TK.depths l+1<=d+1:=p;omega) hi L]
theorem my.mono{h g:Heap}(k:∀a o items n,h.get? a=some o->o.cls=.type "tuple"->o.data=.seq items n->g.get? a=some o):∀(d:Nat) {x:TK}{v:Value},x.depth<=d->my h x v->my g x v:=by
 have m:∀(d:Nat) (i:∀{x:TK}{v:Value},x.depth<=d->my h x v->my g x v) (xs:List TK) (j:Zf),TK.depths xs<=d->TAts h xs j->TAts g xs j:=by
  intro d i xs
  induction xs with
  |nil=>intro j _ hx;exact hx
  |cons x xs p =>
   intro j e hx;obtain⟨v,s,rfl,q,r⟩:=hx;have w:max x.depth (TK.depths xs)<=d:=e;exact⟨v,s,rfl,i (by omega) q,p s (by omega) r⟩
 intro d
 induction d with
 |zero =>
  intro x v e hx;cases x with
  |t l=>exact absurd e (by show ¬(TK.depths l+1<=0);omega)
  |k a=>exact hx
 |succ d i =>
  intro x v e hx;cases x with
  |k a=>exact hx
  |t l =>
   obtain⟨a,o,items,n,rfl,y,u,f,hi⟩:=hx;exact⟨a,o,items,n,rfl,k a o items n y u f,u,f,m d (fun z=>i z) l _ (by have:TK.depths l+1<=d+1:=e;omega) hi⟩
section
variable{prog:bF}{w:World}
theorem GU:∀(d:Nat) {A:Around}{E:Zc}{s:Shared}{k:TK}{v:Value}{Q:Int->Shared->Prop},k.depth<=d->A.units+d<cLine->my s.heap k v->Q (k.hash w) { s with toks:=s.toks+k.draws } ->
  wpAny (model prog w) A (pyHash v) Q E s:=by
 intro d
 induction d with
 |zero =>
  intro A E s k v Q C hu u h;cases k with
  |t l=>exact absurd C (by show ¬(TK.depths l+1<=0);omega)
  |k a=>exact(zN prog w).pyHash (k:=a) u h
 |succ d ih =>
  intro A E s k v Q C hu u h;cases k with
  |k a=>exact(zN prog w).pyHash (k:=a) u h
  |t l =>
   obtain⟨a,o,items,n,rfl,U,hc,D,hi⟩:=u;have y:s.TypeIs (.ref a) "tuple":=⟨o,U,hc⟩;have G:TK.depths l<=d:=by have:TK.depths l+1<=d+1:=C;omega
   unfold pyHash
   first|unfold pyHashByItsType|skip
   first|refine ar (wpAny_cRoomFor_or (.inr (by omega)) ?_)|skip
   refine ar (GG y F.slot_tuple_hash.lookup ?_);show wpAny _ _ (if(some (Ap "tuple.__hash__")==some Value.none)=true then _ else _) Q E s
   rw[if_neg (by rw[beq_builtin_none];exact jG)];refine ar (GG y F.slot_tuple_hash.lookup ?_);show wpAny _ _ (callSpecialIfBoundUnlessNone? (.ref a) "__hash__" _ >>= _) Q E s;refine ar (wpAny_callSpecialIfBoundUnlessNone?_slot y F.slot_tuple_hash (C9 F.slot_tuple_hash y F.entry_tuple_hash ?_ (F.args_tuple_hash_1 _)));show wpAny _ _ (cT.Tuple.tupleItemsOf (.ref a) >>= _) _ _ s;refine ar (wpAny_tupleItemsOf U D ?_);refine ar ?_;rw[<-Array.forIn_toList];refine wpAny_forIn_list _
    (fun g (b:Array Int) H=>∃done left,l=done++left/\TAts s.heap left g/\b.toList=TK.hashs w done/\H={ s with toks:=s.toks+TK.drawss done })
    _ ?_ ?_ _ _ ⟨[],l,rfl,hi,rfl,rfl⟩
   ·rintro x g b H ⟨done,left,e,z,j,rfl⟩;cases left with
    |nil=>have I:x::g=[]:=z;cases I
    |cons f left =>
     obtain⟨x',J,L,h1,Y⟩:=z;cases L;have M:f.depth<=d:=by
      have gen:∀(p:List TK),TK.depths (p++f::left)<=d->f.depth<=d:=by
       intro p
       induction p with
       |nil=>intro N;have O:max f.depth (TK.depths left)<=d:=N;omega
       |cons q p i=>intro N;have O:max q.depth (TK.depths (p++f::left))<=d:=N;exact i (by omega)
      exact gen done (by rw[<-e];exact G)
     have T:TK.hashs w (done++[f])=TK.hashs w done++[f.hash w]:=by
      clear e j
      induction done with
      |nil=>rfl
      |cons q p i=>show _::TK.hashs w (p++[f])=_;rw[i];rfl
     have m:TK.drawss (done++[f])=TK.drawss done+f.draws:=by
      clear e j T
      induction done with
      |nil=>show f.draws+0=0+f.draws;omega
      |cons q p i=>show q.draws+TK.drawss (p++[f])=q.draws+TK.drawss p+f.draws;rw[i];omega
     refine ar (ih (k:=f) M (by show A.units+1+d<cLine;omega) h1 ?_)
     first
      |exact be ⟨done++[f],left,by rw[e];simp,Y,by rw[T];simp[j],by rw[m];simp[vD]⟩
      |exact ar (be (be ⟨done++[f],left,by rw[e];simp,Y,by rw[T];simp[j],by rw[m];simp[vD]⟩))
   ·rintro b H ⟨done,left,e,z,j,rfl⟩;cases left with
    |cons f left=>obtain⟨_,_,L,_⟩:=z;cases L
    |nil =>
     rw[dA]at e;subst e;show wpAny _ _ (retInt (Aq b.toList)) _ _ _;rw[j];refine wpAny_ret_mkInt ?_;have r:Q (Ev (Aq (TK.hashs w l))) { s with toks:=s.toks+(TK.drawss l+1) }:=h;show wpAny _ _ (if(decide (-(2:Int) ^ 63<=Aq (TK.hashs w l)) && decide (Aq (TK.hashs w l)<2 ^ 63))=true then _ else _) Q E _
     unfold Ev at r;by_cases B:(decide (-(2:Int) ^ 63<=Aq (TK.hashs w l)) && decide (Aq (TK.hashs w l)<2 ^ 63))=true
     ·rw[if_pos B];rw[if_pos B]at r;exact be (by simpa[vD]using r)
     ·rw[if_neg B];rw[if_neg B]at r;exact ar (rk (be (by simpa[vD]using r)))
theorem Di(d:Nat)(ih:∀{A:Around}{E:Zc}{s:Shared}{x y:TK}{u v:Value}{Q:Bool->Shared->Prop},x.depth<=d->y.depth<=d->A.units+d<cLine->my s.heap x u->my s.heap y v->Q (decide (x=y)) s->wpAny (model prog w) A (eqBool u v) Q E s)
  {A:Around}{E:Zc}{s:Shared}{x y:List TK}{a b:Addr}{P:Fin->Shared->Prop}{oa J:Obj}{xs q:Array Value}{na nb:Nat}(hx:TK.depths x<=d) (hy:TK.depths y<=d) (hu:A.units+d<cLine)
  (M:s.heap.get? a=some oa) (N:oa.data=.seq xs na) (O:TAts s.heap x xs.toList) (z:s.heap.get? b=some J) (T:J.cls=.type "tuple") (U:J.data=.seq q nb) (Y:TAts s.heap y q.toList)
  (h:P (.done (.ret (.bool (decide (x=y))))) s):wpAny (model prog w) A (cT.«tuple.__eq__» ⟨[.ref a,.ref b],[]⟩) P E s:=by
 have ab:s.TypeIs (.ref b) "tuple":=⟨J,z,T⟩;show wpAny _ _ (y8 (.ref b) (.type "tuple") >>= _) _ _ s;refine ar (wpAny_isInstance ab isSubtype_tuple_tuple ?_);simp only[B6,tf,if_false];refine ar (wpAny_tupleItemsOf M N ?_);refine ar (wpAny_tupleItemsOf z U ?_);refine ar ?_;refine wpAny_forIn_list _
  (fun l r L=>r.1=none/\L=s/\∃n m xs' f,l=List.zip xs' f/\TAts s.heap n xs'/\TAts s.heap m f/\TK.depths n<=d/\TK.depths m<=d/\decide (n=m)=decide (x=y)/\(xs'.length==f.length)=(xs.size==q.size))
  _ ?_ ?_ _ _ ⟨rfl,rfl,x,y,xs.toList,q.toList,rfl,O,Y,hx,hy,rfl,by simp⟩
 ·rintro⟨u,v⟩ l r L ⟨hr,rfl,n,m,xs',f,t,j,g,dx,dy,i,k⟩;cases n with
  |nil =>
   have e:xs'=[]:=j;subst e;simp at t
  |cons k1 o =>
   obtain⟨u',B,rfl,h1,C⟩:=j;cases m with
   |nil =>
    have e:f=[]:=g;subst e;simp at t
   |cons k2 p =>
    obtain⟨v',D,rfl,h2,G⟩:=g;simp only[List.zip_cons_cons,List.cons.injEq,Prod.mk.injEq]at t;obtain⟨⟨rfl,rfl⟩,rfl⟩:=t;have ai:max k1.depth (TK.depths o)<=d:=dx;have aj:max k2.depth (TK.depths p)<=d:=dy;refine ar (ih (x:=k1) (y:=k2) (by omega) (by omega) hu h1 h2 ?_);by_cases hk:k1=k2
    ·subst hk;rw[zzr1 rfl];simp only[B6,tf,if_false];refine be ⟨rfl,rfl,o,p,B,D,rfl,C,G,by omega,by omega,?_,by simpa using k⟩;rw[<-i];by_cases H:o=p
     ·simp[H]
     ·simp[H]
    ·rw[zzr0 hk];simp only[Bool.not_false,if_true];have hf:decide (x=y)=false:=by rw[<-i];simp[hk]
     rw[hf]at h;exact ar (be (be (be h)))
 ·rintro⟨r1,r2⟩ L ⟨hr,rfl,n,m,xs',f,t,j,g,dx,dy,i,k⟩;simp only at hr;subst hr;refine be ?_;have I:(xs.size==q.size)=decide (x=y):=by
   rw[<-i,<-k];cases n with
   |nil =>
    have e:xs'=[]:=j;subst e;cases m with
    |nil=>have e:f=[]:=g;subst e;simp
    |cons _ _=>obtain⟨_,_,rfl,_⟩:=g;simp
   |cons _ _ =>
    obtain⟨_,_,rfl,_⟩:=j;cases m with
    |nil=>have e:f=[]:=g;subst e;simp
    |cons _ _=>obtain⟨_,_,rfl,_⟩:=g;simp at t
  show P (.done (.ret (.bool (xs.size==q.size)))) L;rw[I];exact h
theorem Ki:∀(d:Nat) {A:Around}{E:Zc}{s:Shared}{x y:TK}{u v:Value}{Q:Bool->Shared->Prop},x.depth<=d->y.depth<=d->A.units+d<cLine->my s.heap x u->my s.heap y v->Q (decide (x=y)) s ->
  wpAny (model prog w) A (eqBool u v) Q E s:=by
 have g:∀{A:Around}{E:Zc}{s:Shared}{a:nI}{l:List TK}{u v:Value}{Q:Bool->Shared->Prop},A.units<cLine->my s.heap (.k a) u->my s.heap (.t l) v->Q false s->wpAny (model prog w) A (eqBool u v) Q E s:=by
  intro A E s a l u v Q j hx f h;obtain⟨b,o,items,n,rfl,L,M,q,hi⟩:=f;have r:s.heap.IsTuple b items:=⟨o,L,M,n,q⟩;rcases bV (show iS a u=true from hx)with⟨i,t,rfl,rfl⟩|⟨i,t,rfl,rfl⟩|⟨rfl,rfl⟩
  ·exact bp.int_tuple i t r j prog w E Q h
  ·exact bp.str_tuple i t r j prog w E Q h
  ·exact bp.none_tuple r j prog w E Q h
 have p:∀{A:Around}{E:Zc}{s:Shared}{a:nI}{l:List TK}{u v:Value}{Q:Bool->Shared->Prop},A.units<cLine->my s.heap (.t l) u->my s.heap (.k a) v->Q false s->wpAny (model prog w) A (eqBool u v) Q E s:=by
  intro A E s a l u v Q j hx f h;obtain⟨b,o,items,n,rfl,L,M,q,hi⟩:=hx;have r:s.heap.IsTuple b items:=⟨o,L,M,n,q⟩;rcases bV (show iS a v=true from f)with⟨i,t,rfl,rfl⟩|⟨i,t,rfl,rfl⟩|⟨rfl,rfl⟩
  ·exact bp.tuple_int i t r j prog w E Q h
  ·exact bp.tuple_str i t r j prog w E Q h
  ·exact bp.tuple_none r j prog w E Q h
 have leaves:∀{A:Around}{E:Zc}{s:Shared}{a b:nI}{u v:Value}{Q:Bool->Shared->Prop},my s.heap (.k a) u->my s.heap (.k b) v->Q (decide (TK.k a=TK.k b)) s->wpAny (model prog w) A (eqBool u v) Q E s:=by
  intro A E s a b u v Q hx f h;refine(zN prog w).eqBool (a:=a) (b:=b) hx f ?_;by_cases e:a=b
  ·subst e;simpa using h
  ·have:¬(TK.k a=TK.k b):=fun z=>e (by injection z);rw[zzr0 this]at h;rw[zzr0 e];exact h
 intro d
 induction d with
 |zero =>
  intro A E s x y u v Q B C j hx f h;cases x with
  |t l=>exact absurd B (by show ¬(TK.depths l+1<=0);omega)
  |k a =>
   cases y with
   |t l=>exact absurd C (by show ¬(TK.depths l+1<=0);omega)
   |k b=>exact leaves hx f h
 |succ d ih =>
  intro A E s x y u v Q B C j hx f h;cases x with
  |k a =>
   cases y with
   |k b=>exact leaves hx f h
   |t l =>
    rw[zzr0 (by intro z;cases z)]at h;exact g (by omega) hx f h
  |t l =>
   cases y with
   |k b =>
    rw[zzr0 (by intro z;cases z)]at h;exact p (by omega) hx f h
   |t m =>
    have hl:TK.depths l<=d:=by have:TK.depths l+1<=d+1:=B;omega
    have hm:TK.depths m<=d:=by have:TK.depths m+1<=d+1:=C;omega
    have N:=hx;have O:=f;obtain⟨a,oa,xs,na,rfl,G,T,U,Y⟩:=hx;obtain⟨b,ob,ys,nb,rfl,H,I,ab,ai⟩:=f;have J:s.TypeIs (.ref a) "tuple":=⟨oa,G,T⟩;have aj:s.TypeIs (.ref b) "tuple":=⟨ob,H,I⟩;have ak:decide (TK.t l=TK.t m)=decide (l=m):=by
     by_cases e:l=m
     ·subst e;simp
     ·have:¬(TK.t l=TK.t m):=fun z=>e (by injection z);rw[zzr0 this,zzr0 e]
    unfold eqBool
    try with_reducible refine kW ?_
    show wpAny _ _ (if(Value.ref a==Value.ref b)=true then _ else _) Q E s
    by_cases D:(Value.ref a==Value.ref b)=true
    ·rw[if_pos D];have e:a=b:=by have:=eq_of_beq D;injection this
     subst e;have e2:TK.t l=TK.t m:=my.inj _ (aG _) N O;rw[zzr1 e2]at h;exact ar (rk (be h))
    ·rw[if_neg D];rw[ak]at h;exact ar (wpAny_richCompare_same_room (op:=.Eq) J aj F.slot_tuple_eq
      (C9 F.slot_tuple_eq J F.entry_tuple_eq (Di d (fun h1 h2 h3 h4 h5 h6=>ih h1 h2 h3 h4 h5 h6) hl hm (by show A.units+1+d<cLine;omega) G U Y H I ab ai ⟨_,rfl,(fun e=>nomatch e),nW h⟩) (F.args_tuple_eq_2 _ _)) (by omega))
theorem EF:∀(d:Nat) {A:Around}{E:Zc}{s:Shared}{k:TK}{v:Value}{Q:Bool->Shared->Prop},k.depth<=d->my s.heap k v->Q true s->wpAny (model prog w) A (eqIsQuiet d v) Q E s:=by
 intro d
 induction d with
 |zero =>
  intro A E s k v Q j i h;cases k with
  |t l=>exact absurd j (by show ¬(TK.depths l+1<=0);omega)
  |k a=>rw[eqIsQuiet_byValue _ ((zN prog w).byValue a v i)];exact be h
 |succ d D =>
  intro A E s k v Q j i h;cases k with
  |k a=>rw[eqIsQuiet_byValue _ ((zN prog w).byValue a v i)];exact be h
  |t l =>
   have G:TK.depths l<=d:=by have:TK.depths l+1<=d+1:=j;omega
   obtain⟨a,o,items,n,rfl,y,H,m,hi⟩:=i;have z:s.TypeIs (.ref a) "tuple":=⟨o,y,H⟩;unfold eqIsQuiet;refine ar (GG z F.slot_tuple_eq.lookup ?_);show wpAny _ _ (y8 (.ref a) (.type "tuple") >>= _) _ _ s;refine ar (wpAny_isInstance z isSubtype_tuple_tuple ?_);simp only[B6,tf,if_false];refine ar (mD y m ?_);refine ar ?_;show wpAny _ _ (forIn items _ _) _ _ s;rw[<-Array.forIn_toList];refine wpAny_forIn_list _ (fun f r p=>r.1=none/\p=s/\∃left,TAts s.heap left f/\TK.depths left<=d) _ ?_ ?_ _ _ ⟨rfl,rfl,l,hi,G⟩
   ·rintro v f r p ⟨q,rfl,left,g,u⟩;cases left with
    |nil=>have e:v::f=[]:=g;cases e
    |cons B left =>
     obtain⟨L,x,e,I,J⟩:=g;cases e;have C:max B.depth (TK.depths left)<=d:=u;refine ar (D (k:=B) (by omega) I ?_);simp only[B6,tf,if_false];exact be ⟨rfl,rfl,left,J,by omega⟩
   ·rintro⟨M,N⟩ p ⟨q,rfl,_⟩;simp only at q;subst q;exact be h
def fR(prog:bF)(w:World):HeapKind prog w TK where
 is:=fun h k a=>my h k (.ref a)/\k.depth<=8
 hash:=TK.hash w
 draws:=TK.draws
 room:=fun A=>A.units+8<cLine
 inj:=fun hx hy=>my.inj 8 hx.2 hx.1 hy.1
 keeps:=fun{h h' k a d o es ep} x ho hd hs=>⟨my.mono (fun b ob items n hb _ hdb=>(hs.2 b fun e=>by
  subst e;rw[ho]at hb;cases hb;rw[hd]at hdb;cases hdb).trans hb) 8 x.2 x.1,x.2⟩
 pyHash:=fun hu hk h=>GU 8 hk.2 hu hk.1 h
 eqBool:=fun hu hx hy h=>Ki 8 hx.2 hy.2 hu hx.1 hy.1 h
 quiet:=fun hk h=>EF 8 hk.2 hk.1 h
end
end L2
namespace L2
open PySem PySem.Spec PyProof.Rows
inductive V where
 |non|bl (b:Bool)|int (i:Int)|str (x:Str)|byt (b:Array UInt8)|flt (b:UInt64)|ref (a:Addr)|ty (n:String)
 deriving DecidableEq
def RelV:V->Value->Prop
 |.non,u=>u=Value.none
 |.bl b,u=>u=Value.bool b
 |.int i,u=>∃t,u=Value.int i t
 |.str x,u=>∃t,u=Value.str x t
 |.byt b,u=>∃t,u=Value.bytes b t
 |.flt b,u=>∃t,u=Value.float b t
 |.ref a,u=>u=Value.ref a
 |.ty n,u=>u=Value.type n
abbrev bg:List V->List Value->Prop:=Paired RelV
theorem bg.length{xs:List V}{a:Zf}(r:bg xs a):xs.length=a.length:=Paired.length r
theorem bg.get:∀{xs:List V}{a:Zf}{i:Nat}{x:V},bg xs a->xs[i]?=some x->∃u,a[i]?=some u/\RelV x u
 |_,_,_,_,.nil,e=>by simp at e
 |_,_,0,_,.cons r _,e=>by simp at e;subst e;exact⟨_,rfl,r⟩
 |_,_,i+1,x,.cons _ t,e=>by
  obtain⟨u,f,g⟩:=bg.get (i:=i) (x:=x) t (by simpa using e);exact⟨u,by simpa using f,g⟩
theorem bg.set{x:V}{u:Value}(r:RelV x u):∀{xs:List V}{a:Zf}(i:Nat),bg xs a->bg (xs.set i x) (a.set i u)
 |_,_,_,.nil=>.nil
 |_,_,0,.cons _ t=>.cons r t
 |_,_,i+1,.cons q t=>.cons q (bg.set r i t)
theorem bg.append{xs a:List V}{e f:Zf}(h:bg xs e)(s:bg a f):bg (xs++a) (e++f):=by
 induction h with
 |nil=>exact s
 |cons r _ g=>exact .cons r g
theorem bg.take:∀{xs:List V}{a:Zf}(n:Nat),bg xs a->bg (xs.take n) (a.take n)
 |_,_,0,_=>.nil
 |_,_,_+1,.nil=>.nil
 |_,_,n+1,.cons r t=>.cons r (bg.take n t)
theorem bg.drop:∀{xs:List V}{a:Zf}(n:Nat),bg xs a->bg (xs.drop n) (a.drop n)
 |_,_,0,r=>r
 |_,_,_+1,.nil=>.nil
 |_,_,n+1,.cons _ t=>bg.drop n t
def iV:Option V->Option Value->Prop
 |some v,some u=>RelV v u
 |none,none=>True
 |_,_=>False
def KV{κ:Type}:List (κ×V)->List (κ×Value)->Prop:=Paired fun(p:κ×V) (q:κ×Value)=>p.1=q.1/\RelV p.2 q.2
def kV:eE->V
 |.inl i=>.int i
 |.inr x=>.str x
def Iv:nI->V
 |none=>.non
 |some k=>kV k
inductive HO where
 |lst (xs:List V)
 |tup (xs:List V)
 |dK (kvs:List (eE×V))|dT (kvs:List (TK×V))
 |set (S:Int->Bool) (n:Nat)
 |ins (C dx:Addr) (fs:List (Str×V))
 |own (x:Addr)
 |xd (fs:List (Str×V))
 |met (f x:Addr)
 |rng (lo hi:Int)
 |frz (o:Obj) (u:HO)
 |tbl (ps:Array Value)
 |ext (φ:Heap->Prop)
abbrev Hp:=Addr->Option HO
mutual
def ir(H:Hp):TK->V->Prop
 |.k a,v=>v=Iv a
 |.t l,v=>∃b xs,v=.ref b/\H b=some (.tup xs)/\TKAts H l xs
def TKAts(H:Hp):List TK->List V->Prop
 |[],vs=>vs=[]
 |k::r,vs=>∃v us,vs=v::us/\ir H k v/\TKAts H r us
end
def HQ(K:Za)(H:Hp)(a:Addr)(xs:List V):Prop :=
 H a=some (.tup xs)∨∃(o:Obj) (its:Array Value) (n:Nat),K.lookup a=some o/\o.cls=.type "tuple"/\o.data=.seq its n/\its.size<=ao/\bg xs its.toList
theorem HQ.keeps{K:Za}{H e:Hp}{a:Addr}{xs:List V}(h:HQ K H a xs)(f:∀b xs,H b=some (.tup xs)->e b=some (.tup xs)):HQ K e a xs:=h.imp (f a xs) id
mutual
def Ao(K:Za)(H:Hp):TK->V->Prop
 |.k a,v=>v=Iv a
 |.t l,v=>∃b xs,v=.ref b/\HQ K H b xs/\TKCs K H l xs
def TKCs(K:Za)(H:Hp):List TK->List V->Prop
 |[],vs=>vs=[]
 |k::r,vs=>∃v us,vs=v::us/\Ao K H k v/\TKCs K H r us
end
theorem Ao.keeps{K:Za}{H f:Hp}(p:∀b xs,H b=some (.tup xs)->f b=some (.tup xs)):∀(d:Nat) {k:TK}{v:V},k.depth<=d->Ao K H k v->Ao K f k v:=by
 have i:∀(d:Nat) (g:∀{k:TK}{v:V},k.depth<=d->Ao K H k v->Ao K f k v) (xs:List TK) (h:List V),TK.depths xs<=d->TKCs K H xs h->TKCs K f xs h:=by
  intro d g xs
  induction xs with
  |nil=>intro h _ hx;exact hx
  |cons x xs j =>
   intro h e hx;obtain⟨v,o,rfl,m,n⟩:=hx;have q:max x.depth (TK.depths xs)<=d:=e;exact⟨v,o,rfl,g (by omega) m,j o (by omega) n⟩
 intro d
 induction d with
 |zero =>
  intro k v e hx;cases k with
  |t l=>exact absurd e (by show ¬(TK.depths l+1<=0);omega)
  |k a=>exact hx
 |succ d g =>
  intro k v e hx;cases k with
  |k a=>exact hx
  |t l =>
   obtain⟨b,xs,rfl,r,hi⟩:=hx;exact⟨b,xs,rfl,r.keeps p,i d (fun s=>g s) l xs (by have:TK.depths l+1<=d+1:=e;omega) hi⟩
theorem ir.c{K:Za}{H:Hp}:∀(d:Nat) {k:TK}{v:V},k.depth<=d->ir H k v->Ao K H k v:=by
 have h:∀(d:Nat) (f:∀{k:TK}{v:V},k.depth<=d->ir H k v->Ao K H k v) (xs:List TK) (g:List V),TK.depths xs<=d->TKAts H xs g->TKCs K H xs g:=by
  intro d f xs
  induction xs with
  |nil=>intro g _ hx;exact hx
  |cons x xs i =>
   intro g e hx;obtain⟨v,n,rfl,j,m⟩:=hx;have o:max x.depth (TK.depths xs)<=d:=e;exact⟨v,n,rfl,f (by omega) j,i n (by omega) m⟩
 intro d
 induction d with
 |zero =>
  intro k v e hx;cases k with
  |t l=>exact absurd e (by show ¬(TK.depths l+1<=0);omega)
  |k a=>exact hx
 |succ d f =>
  intro k v e hx;cases k with
  |k a=>exact hx
  |t l =>
   obtain⟨b,xs,rfl,p,hi⟩:=hx;exact⟨b,xs,rfl,.inl p,h d (fun q=>f q) l xs (by have:TK.depths l+1<=d+1:=e;omega) hi⟩
def upd(H:Hp)(a:Addr)(o:HO):Hp:=fun b=>if b=a then some o else H b
theorem aa{H:Hp}{a:Addr}{o:HO}:upd H a o a=some o:=by unfold upd;rw[if_pos rfl]
theorem am{H:Hp}{a b:Addr}{o:HO}(h:b≠a):upd H a o b=H b:=by unfold upd;rw[if_neg h]
theorem ss{H:Hp}{a:Addr}{o u:HO}:upd (upd H a o) a u=upd H a u:=by
 funext b;unfold upd;split<;>rfl
theorem Iq{H:Hp}{a b:Addr}{o u:HO}(h:H a=some o)(f:H b=some u)(d:o≠u):a≠b:=by
 intro e;subst e;rw[h]at f;exact d (d4 f)
theorem ah{H:Hp}{a b:Addr}{o:HO}(h:H a=some o)(f:H b=none):a≠b:=by
 intro e;subst e;rw[h]at f;cases f
section
variable(P:bF)(w:World)(K:Za)
def cN(H:Hp)(h:Heap)(a:Addr):HO->Prop
 |.lst xs=>xs.length<=ao/\∃(its:Zf) (n:Nat),bg xs its/\h.get? a=some { cls:=.type "list",data:=.seq its.toArray n }
 |.tup xs=>xs.length<=ao/\∃its:List Value,bg xs its/\IsTup h a its.toArray
 |.dK kvs=>kvs.length<=ao/\(a==jI)=false/\∃vs,KV kvs vs/\h.DictOf (cF P w) a vs
 |.dT kvs=>kvs.length<=ao/\(a==jI)=false/\∃xs:List (TK×Addr×Value),
   Paired (fun(p:TK×V) (q:TK×Addr×Value)=>p.1=q.1/\Ao K H p.1 (.ref q.2.1)/\p.1.depth<=8/\RelV p.2 q.2.2) kvs xs /\
   ∃o es ep,h.get? a=some o/\o.ExactDict/\o.data=.dict es ep/\es.toList=xs.map (entryOfKey (fR P w))/\(xs.map (·.1)).Nodup
 |.set S n=>h.SetOf (intKind P w) a S n
 |.ins C dx fs=>H dx=some (.own a)/\fs.length<=1000/\dx≠a/\h.get? a=some (rh C dx) /\
   ∃mA,h.Ns1 dx mA/\(∀f,iV (fs.lookup f) (mA f))/\y6 mA (fs.map (·.1))
 |.own _=>∃o,h.get? a=some o
 |.xd fs=>∃mA,h.Ns1 a mA/\∀f,iV (fs.lookup f) (mA f)
 |.rng lo hi=>∃t u v,h.get? a=some { cls:=.type "range",data:=.fields #[.int lo t,.int hi u,.int 1 v] }
 |.frz o u=>h.get? a=some o/\cN H h a u
 |.tbl ps=>h.get? a=some { cls:=.none,data:=.fields ps }
 |.met f x=>h.get? a=some (PySem.W.methodObj (.ref f) (.ref x))
 |.ext φ=>φ h/\(∃o,h.get? a=some o)/\∀h1 h2:Heap,φ h1->(∀o,h1.get? a=some o->h2.get? a=some o)->φ h2
def kO(H:Hp)(h:Heap):Prop:=∀a o,H a=some o->cN P w K H h a o
end
section
variable{P:bF}{w:World}{K:Za}{H H':Hp}{h h':Heap}{a:Addr}{o:HO}
theorem cN.lt(x:cN P w K H h a o):a<h.objs.size:=by
 cases o with
 |lst xs=>obtain⟨_,_,_,_,e⟩:=x;exact aQ e
 |tup xs=>obtain⟨_,_,_,p⟩:=x;exact p.lt
 |dK g=>obtain⟨_,_,_,_,o,_,_,e,_⟩:=x;exact aQ e
 |dT g=>obtain⟨_,_,_,_,o,_,_,e,_⟩:=x;exact aQ e
 |set S n=>obtain⟨o,_,_,_,e,_⟩:=x;exact aQ e
 |ins C i fs=>obtain⟨_,_,_,e,_⟩:=x;exact aQ e
 |own y=>obtain⟨_,e⟩:=x;exact aQ e
 |xd fs=>obtain⟨_,⟨_,_,_,e,_⟩,_⟩:=x;exact aQ e
 |rng lo hi=>obtain⟨_,_,_,e⟩:=x;exact aQ e
 |frz j u=>obtain⟨e,_⟩:=x;exact aQ e
 |tbl k=>exact aQ (show h.get? a=some _ from x)
 |met f y=>exact aQ (show h.get? a=some _ from x)
 |ext φ=>obtain⟨_,⟨_,e⟩,_⟩:=x;exact aQ e
theorem Paired.mapP{α β:Type}{F G:α->β->Prop}{e:List α}{g:List β}(h:Paired F e g)(f:∀a b,F a b->G a b):Paired G e g:=by
 induction h with
 |nil=>exact .nil
 |cons r _ i=>exact .cons (f _ _ r) i
theorem cN.stay(x:cN P w K H h a o)(k:∀b u,(b=a∨H b=some (.own a))->h.get? b=some u->h'.get? b=some u)
  (E:∀b,H b=some (.own a)->H' b=some (.own a)) (G:∀b xs,H b=some (.tup xs)->H' b=some (.tup xs)):cN P w K H' h' a o:=by
 induction o with
 |lst xs=>obtain⟨z,l,n,r,e⟩:=x;exact⟨z,l,n,r,k _ _ (.inl rfl) e⟩
 |tup xs=>obtain⟨z,l,r,g,e,c⟩:=x;exact⟨z,l,r,g,k _ _ (.inl rfl) e,c⟩
 |dK m=>obtain⟨z,y,I,r,g,i,j,e,c⟩:=x;exact⟨z,y,I,r,g,i,j,k _ _ (.inl rfl) e,c⟩
 |dT m =>
  obtain⟨z,y,xs,r,g,i,j,e,c⟩:=x;exact⟨z,y,xs,Paired.mapP r fun p q z=>⟨z.1,Ao.keeps G 8 z.2.2.1 z.2.1,z.2.2⟩,g,i,j,k _ _ (.inl rfl) e,c⟩
 |set S n=>obtain⟨g,i,j,t,e,c⟩:=x;exact⟨g,i,j,t,k _ _ (.inl rfl) e,c⟩
 |ins C M fs =>
  obtain⟨d,z,ne,e,s,⟨B,i,j,J,c⟩,r⟩:=x;exact⟨E _ d,z,ne,k _ _ (.inl rfl) e,s,⟨B,i,j,k _ _ (.inr d) J,c⟩,r⟩
 |own y=>obtain⟨g,e⟩:=x;exact⟨g,k _ _ (.inl rfl) e⟩
 |xd fs=>obtain⟨s,⟨B,i,j,e,c⟩,r⟩:=x;exact⟨s,⟨B,i,j,k _ _ (.inl rfl) e,c⟩,r⟩
 |rng lo hi=>obtain⟨t,u,v,e⟩:=x;exact⟨t,u,v,k _ _ (.inl rfl) e⟩
 |frz g u L=>obtain⟨e,q⟩:=x;exact⟨k _ _ (.inl rfl) e,L q⟩
 |tbl D =>
  have e:h.get? a=some { cls:=.none,data:=.fields D }:=x;show h'.get? a=some { cls:=.none,data:=.fields D };exact k a _ (.inl rfl) e
 |met f y =>
  have e:h.get? a=some (PySem.W.methodObj (.ref f) (.ref y)):=x;show h'.get? a=some (PySem.W.methodObj (.ref f) (.ref y));exact k a _ (.inl rfl) e
 |ext φ=>obtain⟨p,⟨o,e⟩,st⟩:=x;exact⟨st _ _ p fun o q=>k _ _ (.inl rfl) q,⟨o,k _ _ (.inl rfl) e⟩,st⟩
theorem kO.lt(x:kO P w K H h)(e:H a=some o):a<h.objs.size:=(x a o e).lt
theorem kO.fresh(x:kO P w K H h)(e:h.objs.size<=a):H a=none:=by
 cases q:H a with
 |none=>rfl
 |some u=>exact absurd (ft (x.lt q) e) (mC _)
theorem kO.kept(x:kO P w K H h)(k:∀b u,h.get? b=some u->h'.get? b=some u):kO P w K H h':=fun a o e =>
 (x a o e).stay (fun b u _ q=>k b u q) (fun _ q=>q) fun _ _ q=>q
theorem kO.laid(x:kO P w K H h)(k:∀b u,h.get? b=some u->h'.get? b=some u)(i:h.objs.size<=a)(new:cN P w K (upd H a o) h' a o):kO P w K (upd H a o) h':=fun b u e=>by
 have f:=x.fresh i;by_cases g:b=a
 ·subst g;rw[aa]at e;cases e;exact new
 ·rw[am g]at e;exact(x b u e).stay (fun c v _ q=>k c v q) (fun c q=>by rw[am (ah q f)];exact q) fun c xs q=>by rw[am (ah q f)];exact q
end
def Rd(H:Hp)(a:Addr)(u:HO):Prop:=H a=some u∨∃o,H a=some (.frz o u)
theorem Rd.ok{P:bF}{w:World}{K:Za}{H:Hp}{h:Heap}{a:Addr}{u:HO}(r:Rd H a u)(x:kO P w K H h):cN P w K H h a u:=by
 rcases r with r|⟨o,r⟩
 ·exact x a u r
 ·obtain⟨_,q⟩:=x a _ r;exact q
def KR:Option HO->Prop
 |some (.lst _)=>True
 |some (.dK _)=>True
 |some (.dT _)=>True
 |some (.set _ _)=>True
 |some (.ins _ _ _)=>True
 |some (.ext _)=>True
 |_=>False
section
variable{P:bF}{w:World}{K:Za}{H:Hp}{h h':Heap}{x e:Addr}{o':HO}
theorem kO.write(ok:kO P w K H h)(i:KR (H x))(m:e=x∨H e=some (.own x))(k:∀b u,b≠e->h.get? b=some u->h'.get? b=some u)(l:∃u,h'.get? e=some u)
  (new:cN P w K (upd H x o') h' x o'):kO P w K (upd H x o') h':=fun b u q=>by
 have f:∀c y,H c=some (.own y)->c≠x:=fun c y r z=>by subst z;rw[r]at i;exact i
 have g:∀c xs,H c=some (.tup xs)->c≠x:=fun c xs r z=>by subst z;rw[r]at i;exact i
 by_cases j:b=x
 ·subst j;rw[aa]at q;cases q;exact new
 ·rw[am j]at q;by_cases a:b=e
  ·have n:H b=some (.own x):=by
    rcases m with z|z
    ·exact absurd (a.trans z) j
    ·rw[a];exact z
   rw[q]at n;cases n;obtain⟨v,o⟩:=l;exact⟨v,by rw[a];exact o⟩
  ·refine(ok b u q).stay (fun c v hc r=>k c v ?_ r) (fun c r=>by rw[am (f c b r)];exact r) fun c xs r=>by rw[am (g c xs r)];exact r
   rcases hc with rfl|hc
   ·exact a
   ·rintro rfl;rcases m with z|z
    ·exact f c b hc z
    ·rw[hc]at z;cases z;exact j rfl
end
structure Un(fs ex:Ze)(H H':Hp)(h h':Heap):Prop where
 keep:∀b o,h.get? b=some o->H b=none->b∉fs->b∉ex->h'.get? b=some o
 slot:∀b o,h.get? b=some o->H b=none->b∈fs->b∉ex->∃sl,h'.get? b=some { o with slots:=sl }
 free:∀b o,h.get? b=some o->H b=none->b∉ex->H' b=none
 there:∀b o,h.get? b=some o->b∉ex->∃o',h'.get? b=some o'
 tups:∀b xs,H b=some (.tup xs)->H' b=some (.tup xs)
 frzs:∀b o u,H b=some (.frz o u)->H' b=some (.frz o u)
 tbls:∀b ps,H b=some (.tbl ps)->∃more,H' b=some (.tbl (ps++more))
section
variable{fs fs' ex ex':Ze}{H H1 H2:Hp}{h h1 h2 h':Heap}{a x e:Addr}{o:HO}
theorem Un.any(u:Un fs ex H H1 h h1){b:Addr}{f:Obj}(q:h.get? b=some f)(n:H b=none)(hx:b∉ex):∃i,h1.get? b=some { f with slots:=i }:=by
 by_cases g:b∈fs
 ·exact u.slot b f q n g hx
 ·exact⟨f.slots,u.keep b f q n g hx⟩
theorem Un.kept(k:∀b u,h.get? b=some u->h'.get? b=some u):Un fs ex H H h h' :=
 ⟨fun b f q _ _ _=>k b f q,fun b f q _ _ _=>⟨f.slots,k b f q⟩,fun _ _ _ n _=>n,fun b f q _=>⟨f,k b f q⟩,fun _ _ q=>q,fun _ _ _ q=>q,fun _ g q=>⟨#[],by rw[q];simp⟩⟩
theorem Un.refl:Un fs ex H H h h:=Un.kept fun _ _ q=>q
theorem Un.laid(k:∀b u,h.get? b=some u->h'.get? b=some u)(g:h.objs.size<=a)(f:H a=none):Un fs ex H (upd H a o) h h' where
 keep:=fun b u q _ _ _=>k b u q
 slot:=fun b u q _ _ _=>⟨u.slots,k b u q⟩
 free:=fun b u q n _=>by rw[am (cw (ft (aQ q) g))];exact n
 there:=fun b u q _=>⟨u,k b u q⟩
 tups:=fun b xs q=>by rw[am (ah q f)];exact q
 frzs:=fun b u xs q=>by rw[am (ah q f)];exact q
 tbls:=fun b i q=>⟨#[],by rw[am (ah q f),q];simp⟩
theorem Un.write(g:KR (H x))(m:e=x∨H e=some (.own x))(k:∀b u,b≠e->h.get? b=some u->h'.get? b=some u)(i:∃u,h'.get? e=some u):Un fs ex H (upd H x o) h h':=by
 have hx:∀b,H b=none->b≠x:=fun b n z=>by subst z;rw[n]at g;exact g
 have l:∀b,H b=none->b≠e:=fun b n z=>by
  subst z;rcases m with r|r
  ·exact hx b n r
  ·rw[n]at r;cases r
 have j:∀b u,H b=some u->¬KR (some u)->b≠x:=fun b u q p z=>by subst z;rw[q]at g;exact p g
 refine⟨fun b u q n _ _=>k b u (l b n) q,fun b u q n _ _=>⟨u.slots,k b u (l b n) q⟩,fun b u q n _=>by rw[am (hx b n)];exact n,fun b u q _=>?_,
  fun b xs q=>by rw[am (j b _ q fun z=>z)];exact q,fun b u xs q=>by rw[am (j b _ q fun z=>z)];exact q,fun b s q=>⟨#[],by rw[am (j b _ q fun z=>z),q];simp⟩⟩
 by_cases f:b=e
 ·subst f;exact i
 ·exact⟨u,k b u f q⟩
end
def trk(h:Heap)(H:Hp):List Addr:=(nV h.objs.size).filter fun a=>(H a).isSome
def yd(h:Heap)(H:Hp):Heap:=PySem.W.hideAll h (trk h H)
theorem DV(h:Heap)(H:Hp):(yd h H).objs.size=h.objs.size:=PySem.W.hideAll_size _ _
theorem Gb{h:Heap}{H:Hp}{b:Addr}{o:Obj}(e:h.get? b=some o)(n:H b=none):(yd h H).get? b=some o :=
 PySem.W.hideAll_get _ e fun a=>by
  have q:(H b).isSome=true:=(iC.mp a).2;rw[n]at q;simp at q
theorem Hr{h:Heap}{H:Hp}{b:Addr}{o:Obj}(e:(yd h H).get? b=some o):h.get? b=some o/\H b=none:=by
 have a:h.get? b=some o:=PySem.W.of_hideAll (trk h H) e;refine⟨a,?_⟩;cases q:H b with
 |none=>rfl
 |some x =>
  have f:b∈trk h H:=iC.mpr ⟨List.mem_range.mpr (aQ a),by simp[q]⟩;have z:(yd h H).get? b=none:=PySem.W.hideAll_none (trk h H) f;rw[z]at e;cases e
end L2
namespace L2
open PySem PySem.Spec PyProof.Rows
structure Mod(K:Za)(mg:Str->Option Value)(base:Heap):Prop where
 kin:K.In base
 glob:base.Ns cb mg
 blt:∃mb,base.Ns builtinsNs mb/\∀x:Str,x≠"__name__"->mb x=je x
 nolimit:base.NoLimit
structure Cx where
 prog:bF
 w:World
 K:Za
 mg:Str->Option Value
 base:Heap
 A:Around
 N:List Str
 s₀:Shared
 H₀:Hp
 env:Env
 outer:List Env
 stack:List Env
 ex:List Addr
 fn:Str->Bool
 calm:Bool
 pn:List (Addr×Obj)
 xe:Value->Shared->Prop
def mI(l:List Env):List Addr:=l.filterMap (·.frame)
abbrev Cx.fs(X:Cx):List Addr:=mI X.outer
def Vis(sc:Scope)(x:Str):Prop:=sc.names.lookup x=some .local∨sc.names.lookup x=some .cell∨sc.names.lookup x=some .free
def Loc(sc:Scope)(x:Str):Prop:=sc.names.lookup x=some .local∨sc.names.lookup x=some .cell
def Look(env:Env)(h:Heap)(m:Str->Option Value)(x:Str)(u:Value):Prop :=
 (env.kindOf x=some .local/\m x=some u)∨((env.kindOf x=some .cell∨env.kindOf x=some .free)/\∃c,env.cells.lookup x=some c/\h.IsCell c (some u))
structure Cx.Ok(X:Cx):Prop where
 mod:Mod X.K X.mg X.base
 kind:X.env.scope.kind=.function
 glob:X.env.globals=cb
 blt:X.env.builtins=builtinsNs
 above:X.s₀.heap.objs.size<=X.env.locals
 inj:∀x y c,X.env.cells.lookup x=some c->X.env.cells.lookup y=some c->x=y
 has:∀x,(X.env.kindOf x=some .cell∨X.env.kindOf x=some .free)->∃c,X.env.cells.lookup x=some c
 cab:∀x c,X.fn x=true->X.env.cells.lookup x=some c->X.s₀.heap.objs.size<=c
 hd:X.calm=true->X.A.handled=none
 frames:X.A.frames=some X.stack
 stk:X.stack=X.outer∨(X.stack=X.env::X.outer/\X.env.frame=some X.env.locals)
 exf:∀b∈X.ex,b≠X.env.locals/\∀x c,X.env.cells.lookup x=some c->c≠b
 bs:∀b o,X.base.get? b=some o->X.s₀.heap.get? b=some o/\X.H₀ b=none
 bsz:X.base.objs.size<=X.s₀.heap.objs.size
 noex:∀b o,X.base.get? b=some o->b∉X.ex
 exfs:∀b∈X.ex,b∉X.fs
 funs:X.s₀.heap.FunFrames X.base X.outer
 frf:∀b∈X.fs,X.H₀ b=none
structure Inv(X:Cx)(J6:Zd)(σ:List (Option V))(H:Hp)(s:Shared):Prop where
 ok:X.Ok
 os:s.os=X.s₀.os
 bare:mB s.gens
 base:Un X.fs X.ex X.H₀ H X.s₀.heap s.heap
 loc:∃m,s.heap.Ns X.env.locals m/\∀(i:Nat) (x:Str) (v:V),X.N[i]?=some x->σ[i]?=some (some v)->Vis X.env.scope x->∃u,RelV v u/\Look X.env s.heap m x u
 cell:∀x c,X.env.cells.lookup x=some c->∃v,s.heap.IsCell c v
 free:H X.env.locals=none
 freeC:∀x c,X.env.cells.lookup x=some c->H c=none
 pin:∀p∈X.pn++J6,s.heap.get? p.1=some p.2/\H p.1=none/\p.1≠X.env.locals/\p.1∉X.fs/\∀v,p.2.data≠.cell v
 hok:kO X.prog X.w X.K H s.heap
 len:σ.length=X.N.length
section
variable{X:Cx}{J6:Zd}{σ:List (Option V)}{H H':Hp}{s:Shared}{h':Heap}
theorem Cx.Ok.nofr(ok:X.Ok){b:Addr}{o:Obj}(e:X.base.get? b=some o):b∉X.fs:=fun a=>by
 have:=(ok.funs.mem a).1;rw[e]at this;cases this
theorem Inv.bs(I:Inv X J6 σ H s):∀b o,X.base.get? b=some o->s.heap.get? b=some o/\H b=none:=fun b o e =>
 ⟨I.base.keep b o (I.ok.bs b o e).1 (I.ok.bs b o e).2 (I.ok.nofr e) (I.ok.noex b o e),I.base.free b o (I.ok.bs b o e).1 (I.ok.bs b o e).2 (I.ok.noex b o e)⟩
theorem Inv.bk(I:Inv X J6 σ H s):∀b o,X.base.get? b=some o->s.heap.get? b=some o:=fun b o e=>(I.bs b o e).1
theorem Inv.mod(I:Inv X J6 σ H s):Mod X.K X.mg X.base:=I.ok.mod
theorem Inv.kIn(I:Inv X J6 σ H s):X.K.In s.heap:=I.ok.mod.kin.keeps I.bk
theorem Inv.lt(I:Inv X J6 σ H s):X.env.locals<s.heap.objs.size:=let⟨_,a,_⟩:=I.loc;a.lt
theorem Inv.sz(I:Inv X J6 σ H s):X.s₀.heap.objs.size<=s.heap.objs.size:=aP I.ok.above (c6 I.lt)
theorem Inv.nofs(I:Inv X J6 σ H s){a:Addr}(h:s.heap.objs.size<=a):a∉X.fs:=fun e=>by
 obtain⟨_,o,f,_⟩:=I.ok.funs.mem e;exact absurd (ft (aQ f) (aP I.sz h)) (mC _)
theorem Inv.cne(I:Inv X J6 σ H s):∀x c,X.env.cells.lookup x=some c->c≠X.env.locals:=fun x c e z=>by
 obtain⟨v,o,g,h⟩:=I.cell x c e;obtain⟨m,⟨i,j,k,a,f,_⟩,_⟩:=I.loc;rw[z,a]at g;cases g;rw[f]at h;cases h
theorem Inv.funs(I:Inv X J6 σ H s):s.heap.FunFrames X.base X.outer:=by
 have all:∀(l:List Env),(∀b∈mI l,b∈X.fs)->X.s₀.heap.FunFrames X.base l->s.heap.FunFrames X.base l:=by
  intro l
  induction l with
  |nil=>intro _ _;trivial
  |cons h r i =>
   intro g j;obtain⟨k,⟨L,o,hf,m,n,p⟩,q⟩:=j;have a:L∈X.fs:=g L (by unfold mI;rw[nU,hf];exact bR);obtain⟨t,e⟩:=I.base.slot L o n (I.ok.frf L a) a fun z=>I.ok.exfs L z a;exact⟨k,⟨L,_,hf,m,e,p⟩,i (fun b f=>g b (by unfold mI;rw[nU,hf];exact bQ _ f)) q⟩
 exact all X.outer (fun _ f=>f) I.ok.funs
theorem Inv.stack(I:Inv X J6 σ H s):s.heap.FunFrames X.base X.stack:=by
 rcases I.ok.stk with e|⟨e,hf⟩
 ·rw[e];exact I.funs
 ·rw[e];obtain⟨m,a,_⟩:=I.loc;refine .cons (by rw[I.ok.kind];decide) hf a ?_ I.funs;exact Heap.get?_none_of_le (aP I.ok.bsz I.ok.above)
theorem Inv.stkSub(I:Inv X J6 σ H s):∀b∈mI X.stack,b∈X.env.locals::X.fs:=fun b a=>by
 rcases I.ok.stk with e|⟨e,hf⟩
 ·rw[e]at a;exact bQ _ a
 ·rw[e]at a;unfold mI at a;rw[nU,hf]at a;exact a
theorem Inv.stkFree(I:Inv X J6 σ H s):∀b∈mI X.stack,H b=none:=fun b hb=>by
 rcases bw.mp (I.stkSub b hb)with e|hb
 ·rw[e];exact I.free
 ·obtain⟨_,o,a,_⟩:=I.ok.funs.mem hb;exact I.base.free b o a (I.ok.frf b hb) fun z=>I.ok.exfs b z hb
theorem Inv.step{g':Array GenState}{t':Nat}{d':Drawn}{ch:Ze}(I:Inv X J6 σ H s)
  (a:∀b∈ch,(b∈X.ex∨X.s₀.heap.objs.size<=b)/\b≠X.env.locals/\(∀x c,X.env.cells.lookup x=some c->c≠b)/\∀p∈X.pn++J6,p.1≠b)
  (f:∀b o,b≠X.env.locals->b∉X.fs->b∉ch->s.heap.get? b=some o->H b=none->h'.get? b=some o)
  (t:∀b o,b≠X.env.locals->b∈X.fs->b∉ch->s.heap.get? b=some o->H b=none->∃O,h'.get? b=some { o with slots:=O }) (free:∀b o,b∉ch->s.heap.get? b=some o->H b=none->H' b=none)
  (there:∀b o,b∉ch->s.heap.get? b=some o->∃C,h'.get? b=some C)
  (D:∀b xs,H b=some (.tup xs)->H' b=some (.tup xs)) (E:∀b o u,H b=some (.frz o u)->H' b=some (.frz o u)) (G:∀b N,H b=some (.tbl N)->∃J,H' b=some (.tbl (N++J)))
  (ns:∀m,s.heap.Ns X.env.locals m->h'.Ns X.env.locals m) (Q:kO X.prog X.w X.K H' h') (hg:mB g') :
  Inv X J6 σ H' { s with heap:=h',gens:=g',drawn:=d',toks:=t' }:=by
 have L:∀b o,X.s₀.heap.get? b=some o->b≠X.env.locals:=fun b o e=>cw (ft (aQ e) I.ok.above);have h:∀b o,X.s₀.heap.get? b=some o->b∉X.ex->b∉ch:=fun b o e hx y=>by
  rcases(a b y).1 with z|z
  ·exact hx z
  ·exact absurd (ft (aQ e) z) (mC _)
 have cellK:∀x c,X.env.cells.lookup x=some c->∀v,s.heap.IsCell c v->h'.IsCell c v:=fun x c e v ⟨o,B,T⟩=>by
  have g:c∉ch:=fun z=>(a c z).2.2.1 x c e rfl;by_cases Y:c∈X.fs
  ·obtain⟨O,q⟩:=t c o (I.cne x c e) Y g B (I.freeC x c e);exact⟨_,q,T⟩
  ·exact⟨o,f c o (I.cne x c e) Y g B (I.freeC x c e),T⟩
 refine⟨I.ok,I.os,hg,⟨fun b o e n y hx=>?_,fun b o e n y hx=>?_,fun b o e n hx=>?_,fun b o e hx=>?_,fun b xs e=>D b xs (I.base.tups b xs e),fun b o xs e=>E b o xs (I.base.frzs b o xs e),fun b N e=>?_⟩,?_,fun x c e=>?_,?_,fun x c e=>?_,fun p hp=>?_,Q,I.len⟩
 ·exact f b o (L b o e) y (h b o e hx) (I.base.keep b o e n y hx) (I.base.free b o e n hx)
 ·obtain⟨O,j⟩:=I.base.slot b o e n y hx;obtain⟨U,M⟩:=t b _ (L b o e) y (h b o e hx) j (I.base.free b o e n hx);exact⟨U,M⟩
 ·obtain⟨C,j⟩:=I.base.there b o e hx;exact free b C (h b o e hx) j (I.base.free b o e n hx)
 ·obtain⟨C,j⟩:=I.base.there b o e hx;exact there b C (h b o e hx) j
 ·obtain⟨m1,j⟩:=I.base.tbls b N e;obtain⟨m2,M⟩:=G b _ j;exact⟨m1++m2,by rw[M,Array.append_assoc]⟩
 ·obtain⟨m,hn,hl⟩:=I.loc;refine⟨m,ns m hn,fun i x v j M e3=>?_⟩;obtain⟨u,r,l⟩:=hl i x v j M e3;refine⟨u,r,?_⟩;rcases l with l|⟨k,c,e,z⟩
  ·exact .inl l
  ·exact .inr ⟨k,c,e,cellK x c e _ z⟩
 ·obtain⟨v,z⟩:=I.cell x c e;exact⟨v,cellK x c e v z⟩
 ·obtain⟨m,⟨o,_,_,B,_⟩,_⟩:=I.loc;exact free _ o (fun z=>(a _ z).2.1 rfl) B I.free
 ·obtain⟨v,o,B,T⟩:=I.cell x c e;exact free c o (fun z=>(a c z).2.2.1 x c e rfl) B (I.freeC x c e)
 ·obtain⟨e,n,ne,nf,d⟩:=I.pin p hp;have g:p.1∉ch:=fun z=>(a p.1 z).2.2.2 p hp rfl;exact⟨f p.1 p.2 ne nf g e n,free p.1 p.2 g e n,ne,nf,d⟩
theorem Inv.un{t':Nat}(I:Inv X J6 σ H s)(u:Un X.fs [] H H' s.heap h')(f:kO X.prog X.w X.K H' h'):Inv X J6 σ H' { s with heap:=h',toks:=t' }:=by
 obtain⟨m,⟨o,q,t,j,r⟩,_⟩:=id I.loc;obtain⟨v,k⟩:=u.any j I.free (by simp);exact I.step (g':=s.gens) (d':=s.drawn) (ch:=[]) (fun _ z=>nomatch z) (fun b o _ g _ e n=>u.keep b o e n g (by simp)) (fun b o _ g _ e n=>u.slot b o e n g (by simp)) (fun b o _ e n=>u.free b o e n (by simp)) (fun b o _ e=>u.there b o e (by simp)) u.tups u.frzs u.tbls (fun x l=>by
  obtain⟨y,h,i,a,p⟩:=l;rw[j]at a;cases a;exact⟨_,h,i,k,p⟩) f I.bare
theorem Inv.call{g':Array GenState}{t':Nat}{d':Drawn}{ch:Ze}(I:Inv X J6 σ H s)(u:Un (mI X.stack) ch H H' s.heap h')(h:kO X.prog X.w X.K H' h')(q:mB g')
  (f:∀b∈ch,(b∈X.ex∨X.s₀.heap.objs.size<=b)/\b≠X.env.locals/\(∀x c,X.env.cells.lookup x=some c->c≠b)/\∀p∈X.pn++J6,p.1≠b) :
  Inv X J6 σ H' { s with heap:=h',gens:=g',drawn:=d',toks:=t' }:=by
 obtain⟨m,⟨o,B,C,l,r⟩,_⟩:=id I.loc;obtain⟨D,i⟩:=u.any l I.free fun z=>(f _ z).2.1 rfl;exact I.step (ch:=ch) f (fun b o i t a e n=>u.keep b o e n (fun z=>(bw.mp (I.stkSub b z)).elim i t) a) (fun b o _ _ a e n=>u.any e n a) (fun b o a e n=>u.free b o e n a) (fun b o a e=>u.there b o e a) u.tups u.frzs u.tbls (fun E v=>by
  obtain⟨G,j,k,g,y⟩:=v;rw[l]at g;cases g;exact⟨_,j,k,i,y⟩) h q
theorem Inv.turned{t':Nat}{it:Addr}(I:Inv X J6 σ H s)(k:∀b o,b≠it->s.heap.get? b=some o->h'.get? b=some o)(h:H it=none)(g:it≠X.env.locals)
  (i:it∈X.ex∨X.s₀.heap.objs.size<=it) (j:∀x c,X.env.cells.lookup x=some c->c≠it) (l:∀p∈X.pn++J6,p.1≠it):Inv X J6 σ H { s with heap:=h',toks:=t' }:=by
 have f:∀b u,H b=some u->b≠it:=fun b u e z=>by rw[z,h]at e;cases e
 refine I.step (g':=s.gens) (d':=s.drawn) (ch:=[it]) (fun b t=>?_) (fun b o _ _ a e _=>k b o (fun z=>a (by simp[z])) e) (fun b o _ _ a e _=>⟨o.slots,k b o (fun z=>a (by simp[z])) e⟩) (fun _ _ _ _ n=>n)
  (fun b o a e=>⟨o,k b o (fun z=>a (by simp[z])) e⟩) (fun _ _ e=>e) (fun _ _ _ e=>e) (fun b D e=>⟨#[],by rw[e];simp⟩) (fun m w=>?_) (fun b u e=>?_) I.bare
 ·have e:b=it:=by simpa using t
  subst e;exact⟨i,g,j,l⟩
 ·obtain⟨o,y,B,C,r⟩:=w;exact⟨o,y,B,k _ o (cZ g) C,r⟩
 ·refine(I.hok b u e).stay (fun c v a q=>k c v ?_ q) (fun _ q=>q) fun _ _ q=>q;rcases a with z|z
  ·rw[z];exact f b u e
  ·exact f c _ z
theorem Inv.tok(I:Inv X J6 σ H s)(t:Nat):Inv X J6 σ H { s with toks:=t }:=I.un (h':=s.heap) (t':=t) Un.refl I.hok
theorem Inv.kept{t':Nat}(I:Inv X J6 σ H s)(k:∀b u,s.heap.get? b=some u->h'.get? b=some u):Inv X J6 σ H { s with heap:=h',toks:=t' }:=I.un (Un.kept k) (I.hok.kept k)
theorem Inv.laid{a:Addr}{o:HO}{t':Nat}(I:Inv X J6 σ H s)(k:∀b u,s.heap.get? b=some u->h'.get? b=some u)(e:s.heap.objs.size<=a)(new:cN X.prog X.w X.K (upd H a o) h' a o):
  Inv X J6 σ (upd H a o) { s with heap:=h',toks:=t' }:=I.un (Un.laid k e (I.hok.fresh e)) (I.hok.laid k e new)
theorem Inv.write{x e:Addr}{o:HO}{t':Nat}(I:Inv X J6 σ H s)(f:KR (H x))(g:e=x∨H e=some (.own x))(k:∀b u,b≠e->s.heap.get? b=some u->h'.get? b=some u)(a:∃u,h'.get? e=some u)
  (new:cN X.prog X.w X.K (upd H x o) h' x o):Inv X J6 σ (upd H x o) { s with heap:=h',toks:=t' }:=I.un (Un.write f g k a) (I.hok.write f g k a new)
theorem Inv.weak{σ':List (Option V)}(I:Inv X J6 σ H s)(e:σ'.length=σ.length)(w:∀(i:Nat) v,σ'[i]?=some (some v)->σ[i]?=some (some v)):Inv X J6 σ' H s :=
 ⟨I.ok,I.os,I.bare,I.base,let⟨m,f,a⟩:=I.loc;⟨m,f,fun i x v g h j=>a i x v g (w i v h) j⟩,I.cell,I.free,I.freeC,I.pin,I.hok,e.trans I.len⟩
theorem Inv.pins_of{a:Zd}(I:Inv X J6 σ H s)(h:∀p∈a,s.heap.get? p.1=some p.2/\H p.1=none/\p.1≠X.env.locals/\p.1∉X.fs/\∀v,p.2.data≠.cell v):Inv X a σ H s :=
 ⟨I.ok,I.os,I.bare,I.base,I.loc,I.cell,I.free,I.freeC,fun p e=>(bu.mp e).elim (fun z=>I.pin p (cL _ z)) (h p),I.hok,I.len⟩
theorem ug{N:Zb}(e:N.Nodup){i j:Nat}{x:Str}(a:N[i]?=some x)(b:N[j]?=some x):i=j:=by
 obtain⟨h,f⟩:=dg.mp a;obtain⟨k,g⟩:=dg.mp b;exact(List.getElem_inj e).mp (f.trans g.symm)
theorem vJ{M:Model}{A:Around}{E:Zc}{i:Nat}{x:Str}{v:V}{u:Value}{Q:Unit->Shared->Prop}(I:Inv X J6 σ H s)(hN:X.N.Nodup)(hi:X.N[i]?=some x)(hx:Loc X.env.scope x)(r:RelV v u)
  (h:∀s',Inv X J6 (σ.set i (some v)) H s'->(∃a,jH a s.heap s'.heap/\(a=X.env.locals∨X.env.cells.lookup x=some a))->Q () s') (hf:X.fn x=true∨X.env.scope.names.lookup x=some .local:=by first|exact .inl rfl|exact .inr rfl|assumption):wpAny M A (storeName X.env x u) Q E s:=by
 obtain⟨m,hn,hl⟩:=id I.loc;have G:(X.env.scope.kind==.class || (X.env.scope.kind==.module && X.env.locals != X.env.globals))=false:=by rw[I.ok.kind];rfl
 have hiσ:i<σ.length:=by rw[I.len];exact(dg.mp hi).1
 have cne:=I.cne;have tracked:∀{a:Addr}{h':Heap},(∃o,s.heap.get? a=some o/\H a=none)->jH a s.heap h'->kO X.prog X.w X.K H h':=fun{a h'} ha f b ob e=>by
  obtain⟨_,_,l⟩:=ha;refine(I.hok b ob e).stay (fun c U hc q=>(f.2 c ?_).trans q) (fun _ q=>q) fun _ _ q=>q;rintro rfl;rcases hc with rfl|hc
  ·rw[l]at e;cases e
  ·rw[l]at hc;cases hc
 rcases hx with hk|hk
 ·refine wpAny_storeName_local hk hn (fun h' ab f=>?_) G;obtain⟨oL,_,_,ai,_⟩:=id hn;refine h _ ⟨I.ok,I.os,I.bare,⟨fun b o e n B hx=>?_,fun b o e n B hx=>?_,I.base.free,fun b o e hx=>?_,I.base.tups,I.base.frzs,I.base.tbls⟩,⟨_,ab,fun j y v' g t e3=>?_⟩,fun y c e=>?_,I.free,I.freeC,fun p hp=>?_,tracked ⟨oL,ai,I.free⟩ f,by simpa using I.len⟩ ⟨_,f,.inl rfl⟩
  ·exact(f.2 b (cw (ft (aQ e) I.ok.above))).trans (I.base.keep b o e n B hx)
  ·obtain⟨sl,g⟩:=I.base.slot b o e n B hx;exact⟨sl,(f.2 b (cw (ft (aQ e) I.ok.above))).trans g⟩
  ·obtain⟨o',g⟩:=I.base.there b o e hx;exact⟨o',(f.2 b (cw (ft (aQ e) I.ok.above))).trans g⟩
  ·by_cases C:j=i
   ·subst C;rw[hi]at g;cases g;rw[B5 hiσ]at t;cases t;exact⟨u,r,.inl ⟨hk,by simp⟩⟩
   ·rw[y4 (cZ C)]at t;obtain⟨u',r',q⟩:=hl j y v' g t e3;refine⟨u',r',?_⟩;rcases q with⟨k,e⟩|⟨k,c,e,z⟩
    ·refine .inl ⟨k,?_⟩;have:y≠x:=fun e=>C (ug hN g (e▸hi));simp[this,e]
    ·exact .inr ⟨k,c,e,z.sameBut f (cne y c e)⟩
  ·obtain⟨U,z⟩:=I.cell y c e;exact⟨U,z.sameBut f (cne y c e)⟩
  ·obtain⟨e,n,ne,nf,d⟩:=I.pin p hp;exact⟨(f.2 p.1 ne).trans e,n,ne,nf,d⟩
 ·have D:X.fn x=true:=by
   rcases hf with z|z
   ·exact z
   ·rw[z]at hk;cases hk
  obtain⟨c,hc⟩:=I.ok.has x (.inl hk);obtain⟨U,z⟩:=I.cell x c hc;refine wpAny_storeName_cell I.ok.kind hk hc z (fun h' J f=>?_);obtain⟨oc,L,O⟩:=id z;refine h { s with heap:=h' } ⟨I.ok,I.os,I.bare,⟨fun b o e n B hx=>?_,fun b o e n B hx=>?_,I.base.free,fun b o e hx=>?_,I.base.tups,I.base.frzs,I.base.tbls⟩,⟨m,hn.sameBut f (cZ (cne x c hc)),fun j y v' g t e3=>?_⟩,fun y Y e=>?_,I.free,I.freeC,fun p hp=>?_,tracked ⟨oc,L,I.freeC x c hc⟩ f,by simpa using I.len⟩ ⟨c,f,.inr hc⟩
  ·exact(f.2 b (cw (ft (aQ e) (I.ok.cab x c D hc)))).trans (I.base.keep b o e n B hx)
  ·obtain⟨sl,g⟩:=I.base.slot b o e n B hx;exact⟨sl,(f.2 b (cw (ft (aQ e) (I.ok.cab x c D hc)))).trans g⟩
  ·obtain⟨o',g⟩:=I.base.there b o e hx;exact⟨o',(f.2 b (cw (ft (aQ e) (I.ok.cab x c D hc)))).trans g⟩
  ·by_cases C:j=i
   ·subst C;rw[hi]at g;cases g;rw[B5 hiσ]at t;cases t;exact⟨u,r,.inr ⟨.inl hk,c,hc,J⟩⟩
   ·rw[y4 (cZ C)]at t;obtain⟨u',r',q⟩:=hl j y v' g t e3;refine⟨u',r',?_⟩;rcases q with q|⟨k,Y,e,z'⟩
    ·exact .inl q
    ·refine .inr ⟨k,Y,e,z'.sameBut f ?_⟩;rintro rfl;exact C (ug hN g (I.ok.inj _ _ _ e hc▸hi))
  ·by_cases T:Y=c
   ·subst T;exact⟨_,J⟩
   ·obtain⟨w2,z2⟩:=I.cell y Y e;exact⟨w2,z2.sameBut f T⟩
  ·obtain⟨e,n,ne,nf,d⟩:=I.pin p hp;refine⟨(f.2 p.1 ?_).trans e,n,ne,nf,d⟩;intro q;rw[q,L]at e;have q':oc=p.2:=d4 e;exact d U (by rw[<-q'];exact O)
theorem ol{M:Model}{A:Around}{E:Zc}{i:Nat}{x:Str}{v:V}{u:Value}{Q:Unit->Shared->Prop}(I:Inv X J6 σ H s)(e:X.N.Nodup)(hi:X.N[i]?=some x)(hx:Loc X.env.scope x)(r:RelV v u)
  (h:∀a,Inv X J6 (σ.set i (some v)) H a->Q () a) (hf:X.fn x=true∨X.env.scope.names.lookup x=some .local:=by first|exact .inl rfl|exact .inr rfl|assumption):wpAny M A (storeName X.env x u) Q E s :=
 vJ I e hi hx r (fun a f _=>h a f) hf
theorem Inv.call'{s':Shared}{ch:Ze}(I:Inv X J6 σ H s)(g:s'.os=s.os)(u:Un (mI X.stack) ch H H' s.heap s'.heap)(a:kO X.prog X.w X.K H' s'.heap)(h:mB s'.gens)
  (f:∀b∈ch,(b∈X.ex∨X.s₀.heap.objs.size<=b)/\b≠X.env.locals/\(∀x c,X.env.cells.lookup x=some c->c≠b)/\∀p∈X.pn++J6,p.1≠b):Inv X J6 σ H' s':=by
 obtain⟨h',i,j,k,l⟩:=s';have e:l=s.os:=g;subst e;exact I.call (g':=i) (t':=k) (d':=j) u a h f
end
abbrev XK:=Value->Option Addr->Hp->Prop
abbrev St:=List (Option V)
abbrev VK:=V->Hp->Prop
abbrev TE:=St->Hp->VK->Prop
abbrev TT:=St->Hp->(Bool->Hp->Prop)->Prop
abbrev TA:=St->Hp->(List V->Hp->Prop)->Prop
structure iw where
 nx:St->Hp->Prop
 rt:VK
 bk:St->Hp->Prop:=fun _ _=>False
 ct:St->Hp->Prop:=fun _ _=>False
abbrev bJ(Q:VK):iw:={ nx:=fun _ H=>Q .non H,rt:=Q }
abbrev TS:=iw->St->Hp->Prop
def EP(X:Cx)(J6:Zd)(σ:St)(Q:VK)(u:Value)(s':Shared):Prop:=∃v H',Inv X J6 σ H' s'/\RelV v u/\Q v H'
def TP(X:Cx)(J6:Zd)(σ:St)(Q:Bool->Hp->Prop)(b:Bool)(s':Shared):Prop:=∃H',Inv X J6 σ H' s'/\Q b H'
def AP(X:Cx)(J6:Zd)(σ:St)(Q:List V->Hp->Prop)(us:Zf)(s':Shared):Prop:=∃vs H',Inv X J6 σ H' s'/\bg vs us/\Q vs H'
def SP(X:Cx)(J6:Zd)(D:iw)(f:Flow)(s':Shared):Prop :=
 match f with
 |.next=>∃σ' H',Inv X J6 σ' H' s'/\D.nx σ' H'
 |.brk=>∃σ' H',Inv X J6 σ' H' s'/\D.bk σ' H'
 |.cont=>∃σ' H',Inv X J6 σ' H' s'/\D.ct σ' H'
 |.ret u=>∃v σ' H',Inv X J6 σ' H' s'/\RelV v u/\D.rt v H'
def PE(X:Cx)(e:Expr)(t:TE):Prop :=
 ∀(J6:Zd) (s:Shared) (σ:St) (H:Hp) (Q:VK),Inv X J6 σ H s->t σ H Q->wpAny (model X.prog X.w) X.A (eval e X.env) (EP X J6 σ Q) X.xe s
def PT(X:Cx)(e:Expr)(t:TT):Prop :=
 ∀(J6:Zd) (s:Shared) (σ:St) (H:Hp) (Q:Bool->Hp->Prop),Inv X J6 σ H s->t σ H Q->wpAny (model X.prog X.w) X.A (isTrue e X.env (eval e X.env)) (TP X J6 σ Q) X.xe s
def PW(X:Cx)(e:Expr)(t:TT):Prop :=
 ∀(whole:Sem Value) (J6:Zd) (s:Shared) (σ:St) (H:Hp) (Q:Bool->Hp->Prop),Inv X J6 σ H s->t σ H Q->wpAny (model X.prog X.w) X.A (isTrue e X.env whole) (TP X J6 σ Q) X.xe s
theorem PW.pt{X:Cx}{e:Expr}{t:TT}(h:PW X e t):PT X e t:=h _
def PA(X:Cx)(es:List Expr)(t:TA):Prop :=
 ∀(pos:Pos) (J6:Zd) (s:Shared) (σ:St) (H:Hp) (Q:List V->Hp->Prop),Inv X J6 σ H s->t σ H Q->wpAny (model X.prog X.w) X.A (vC (backTo pos (aB es X.env))) (AP X J6 σ Q) X.xe s
def PS(X:Cx)(st:Stmt)(t:TS):Prop :=
 ∀(J6:Zd) (s:Shared) (σ:St) (H:Hp) (D:iw),Inv X J6 σ H s->t D σ H->wpAny (model X.prog X.w) X.A (exec st X.env) (SP X J6 D) X.xe s
def yJ(X:Cx)(st:List Stmt)(t:TS):Prop :=
 ∀(J6:Zd) (s:Shared) (σ:St) (H:Hp) (D:iw),Inv X J6 σ H s->t D σ H->wpAny (model X.prog X.w) X.A (execs st X.env) (SP X J6 D) X.xe s
theorem cA{α:Type}{t:Sem α}{Q e:α->Shared->Prop}{M:Model}{A:Around}{E:Zc}{s:Shared}(h:wpAny M A t Q E s)(f:∀a s,Q a s->e a s):wpAny M A t e E s:=dF h f fun _ _ x=>x
end L2
namespace L2
open PySem PySem.Spec PyProof.Rows
section
variable{X:Cx}
def ml(i:Nat):TE:=fun σ H Q=>∃v,σ[i]?=some (some v)/\Q v H
abbrev V0:TE:=ml 0
abbrev V1:TE:=ml 1
abbrev V2:TE:=ml 2
abbrev V3:TE:=ml 3
abbrev V4:TE:=ml 4
abbrev V5:TE:=ml 5
abbrev V6:TE:=ml 6
abbrev V7:TE:=ml 7
abbrev V8:TE:=ml 8
abbrev V9:TE:=ml 9
abbrev Kc:TE:=ml 10
abbrev Lb:TE:=ml 11
abbrev La:TE:=ml 12
def tC(v:V):TE:=fun _ H Q=>Q v H
theorem Jo{i:Nat}{x:Str}{g:Pos}(o:X.N[i]?=some x)(p:Vis X.env.scope x)(j:(x==("__debug__":Str))=false:=by decide)(k:(x==("__classdict__":Str))=false:=by decide):PE X (.Name x g) (ml i):=by
 intro J6 s σ H Q I h;obtain⟨v,e,h⟩:=h;obtain⟨m,q,t⟩:=I.loc;obtain⟨u,r,l⟩:=t i x v o e p;have f:EP X J6 σ Q u s:=⟨v,H,I,r,h⟩;rcases l with⟨hk,w⟩|⟨hk,c,n,a⟩
 ·exact wpAny_Name (wpAny_loadName_local I.ok.kind hk q w f) j
 ·rcases hk with hk|hk
  ·exact wpAny_Name (wpAny_loadName_cell I.ok.kind hk n a f) j
  ·exact wpAny_Name (wpAny_loadName_free I.ok.kind hk n a f k) j
theorem af{i j a}:PE X (.Constant (.int i) j a) (tC (.int i)):=fun _ _ _ H _ I h=>wpAny_Constant_int ⟨.int i,H,I.tok _,⟨_,rfl⟩,h⟩
theorem mG{b j a}:PE X (.Constant (.bool b) j a) (tC (.bl b)):=fun _ _ _ H _ I h=>Constant_bool ⟨.bl b,H,I,rfl,h⟩
theorem lC{j a}:PE X (.Constant .none j a) (tC .non):=fun _ _ _ H _ I h=>Constant_none ⟨.non,H,I,rfl,h⟩
theorem az{x j a}:PE X (.Constant (.str x) j a) (tC (.str x)):=fun _ _ _ H _ I h=>B4 ⟨.str x,H,I.tok _,⟨_,rfl⟩,h⟩
def Gl(X:Cx)(x:Str):Prop:=X.env.kindOf x=some .globalImplicit
theorem ik{E:Zc}{e:Zd}{s:Shared}{σ:St}{H:Hp}{x:Str}{u:Value}{a:Pos}{Q:Zc}(I:Inv X e σ H s)(f:Gl X x)(g:X.mg x=some u)(h:Q u s)
  (i:(x==("__debug__":Str))=false:=by decide):wpAny (model X.prog X.w) X.A (eval (.Name x a) X.env) Q E s :=
 Calls.Name_function_global I.ok.kind f (Calls.loadGlobal_global (by rw[I.ok.glob];exact I.mod.glob.keeps I.bk) g h) i
theorem qt{E:Zc}{e:Zd}{s:Shared}{σ:St}{H:Hp}{x:Str}{u:Value}{a:Pos}{Q:Zc}(I:Inv X e σ H s)(f:Gl X x)(g:X.mg x=none)(i:je x=some u)(h:Q u s)
  (j:x≠"__name__":=by decide) (k:(x==("__debug__":Str))=false:=by decide):wpAny (model X.prog X.w) X.A (eval (.Name x a) X.env) Q E s:=by
 obtain⟨n,l,m⟩:=I.mod.blt;exact Calls.Name_function_global I.ok.kind f (Calls.loadGlobal_builtin (by rw[I.ok.glob];exact I.mod.glob.keeps I.bk) g (by rw[I.ok.blt];exact l.keeps I.bk) ((m x j).trans i) h) k
theorem Hk{x:Str}{v:V}{u:Value}{a:Pos}(e:Gl X x)(f:X.mg x=some u)(r:RelV v u)(g:(x==("__debug__":Str))=false:=by decide):PE X (.Name x a) (tC v) :=
 fun _ _ _ H _ I h=>ik I e f ⟨v,H,I,r,h⟩ g
theorem oR{x:Str}{v:V}{u:Value}{a:Pos}(e:Gl X x)(f:X.mg x=none)(g:je x=some u)(r:RelV v u)(i:x≠"__name__":=by decide)(j:(x==("__debug__":Str))=false:=by decide):PE X (.Name x a) (tC v) :=
 fun _ _ _ H _ I h=>qt I e f g ⟨v,H,I,r,h⟩ i j
variable{a b:Expr}{ta tb:TE}{pos:Pos}
def PC(X:Cx)(op:CmpOp)(a b:Expr)(t:TE):Prop :=
 ∀(J6:Zd) (s:Shared) (σ:St) (H:Hp) (Q:VK),Inv X J6 σ H s->t σ H Q ->
  wpAny (model X.prog X.w) X.A (eval a X.env) (fun v s₁=>wpAny (model X.prog X.w) X.A (eval b X.env) (fun u s₂=>wpAny (model X.prog X.w) X.A (eG op v u) (EP X J6 σ Q) X.xe s₂) X.xe s₁) X.xe s
theorem zM(b:Expr){e:CmpOp}(h:e≠.In)(f:e≠.NotIn):kK e b=false:=by
 have g:(e==CmpOp.In)=false:=by cases e<;>first|rfl|exact absurd rfl h
 have i:(e==CmpOp.NotIn)=false:=by cases e<;>first|rfl|exact absurd rfl f
 cases b<;>simp[kK,g,i]
def EL(ta:TE):TE:=fun σ H Q=>ta σ H fun x H1=>Q (.bl (decide (x=.non))) H1
def Cj(ta:TE):TE:=fun σ H Q=>ta σ H fun x H1=>Q (.bl (!decide (x=.non))) H1
theorem RelV.none_iff{x:V}{v:Value}(r:RelV x v):(v==Value.none)=decide (x=.non):=by
 cases x with
 |non=>cases r;rfl
 |bl _=>cases r;rfl
 |int _=>obtain⟨t,rfl⟩:=r;rfl
 |str _=>obtain⟨t,rfl⟩:=r;rfl
 |byt _=>obtain⟨t,rfl⟩:=r;rfl
 |flt _=>obtain⟨t,rfl⟩:=r;rfl
 |ref _=>cases r;rfl
 |ty _=>cases r;rfl
theorem Bb{j e}(g:PE X a ta):PC X .Is a (.Constant .none j e) (EL ta):=by
 intro i s σ H Q I h;refine cA (g i s σ H _ I h) fun v o f=>?_;obtain⟨x,k,l,m,n⟩:=f;exact Constant_none (is_none_gen ⟨.bl _,k,l,by rw[m.none_iff];rfl,n⟩)
theorem xR{j e}(g:PE X a ta):PC X .IsNot a (.Constant .none j e) (Cj ta):=by
 intro i s σ H Q I h;refine cA (g i s σ H _ I h) fun v o f=>?_;obtain⟨x,k,l,m,n⟩:=f;exact Constant_none (isnot_none_gen ⟨.bl _,k,l,by rw[m.none_iff];rfl,n⟩)
def tB(t:TE):TT:=fun σ H Q=>t σ H fun x H1=>∃c,x=.bl c/\Q c H1
theorem Jq{e:CmpOp}{t:TE}(h:PC X e a b t)(f:kK e b=false:=by first|exact zM _ (by decide) (by decide)|rfl):PE X (.Compare a [e] [b] pos) t:=fun g s σ H Q I i=>wpAny_Compare1 (h g s σ H Q I i) f
theorem hZ{e:CmpOp}{t:TE}(h:PC X e a b t)(f:kK e b=false:=by first|exact zM _ (by decide) (by decide)|rfl):PT X (.Compare a [e] [b] pos) (tB t):=by
 intro i s σ H Q I j;refine wpAny_isTrue_Compare1 (cA (h i s σ H _ I j) fun v p f=>cA f fun u r k=>cA k fun c w g=>?_) f;obtain⟨x,l,m,n,o⟩:=g;obtain⟨d,rfl,q⟩:=o;cases n;exact nW ⟨l,m,q⟩
theorem gq{e:Expr}{t:TE}(h:PE X e t)(g:∀whole,isTrue e X.env whole=(do let v <- whole;vB e.pos;nS [v] (truthy v)):=by intro _;rfl):PT X e (tB t):=by
 intro i s σ H Q I j;refine isTrue_plain (cA (h i s σ H _ I j) fun v o f=>?_) (g _);obtain⟨x,k,l,m,n⟩:=f;obtain⟨d,rfl,q⟩:=n;cases m;exact nW ⟨k,l,q⟩
variable{tA tB':TT}{rest:List Expr}
def xB(t u:TT):TT:=fun σ H Q=>t σ H fun c H1=>if c=true then u σ H1 Q else Q false H1
def Du(t u:TT):TT:=fun σ H Q=>t σ H fun c H1=>if c=true then Q true H1 else u σ H1 Q
def xm(t:TT):TT:=fun σ H Q=>t σ H fun c H1=>Q (!c) H1
theorem oQ(f:PT X a tA):PW X (.BoolOp .And [a] pos) tA:=by
 intro i g s σ H Q I h;refine isTrue_and (cA (f g s σ H Q I h) fun c j e=>?_);cases c with
 |true=>exact isTrue_and_nil e
 |false=>exact e
theorem lA(f:PT X a tA):PW X (.BoolOp .Or [a] pos) tA:=by
 intro i g s σ H Q I h;refine isTrue_or (cA (f g s σ H Q I h) fun c j e=>?_);cases c with
 |false=>exact isTrue_or_nil e
 |true=>exact e
theorem qd(k:PT X a tA)(l:PW X (.BoolOp .And (b::rest) pos) tB'):PW X (.BoolOp .And (a::b::rest) pos) (xB tA tB'):=by
 intro m f s σ H Q I h;refine isTrue_and (cA (k f s σ H _ I h) fun c n e=>?_);obtain⟨g,i,j⟩:=e;cases c with
 |true=>exact l m f n σ g Q i j
 |false=>exact⟨g,i,j⟩
theorem kL(k:PT X a tA)(l:PW X (.BoolOp .Or (b::rest) pos) tB'):PW X (.BoolOp .Or (a::b::rest) pos) (Du tA tB'):=by
 intro m f s σ H Q I h;refine isTrue_or (cA (k f s σ H _ I h) fun c n e=>?_);obtain⟨g,i,j⟩:=e;cases c with
 |true=>exact⟨g,i,j⟩
 |false=>exact l m f n σ g Q i j
theorem nh(e:PT X a tA):PT X (.UnaryOp .Not a pos) (xm tA):=by
 intro f s σ H Q I h;exact isTrue_not (e f s σ H (fun c g=>Q (!c) g) I h)
def iK(ta tb:TE):TE:=fun σ H Q=>ta σ H fun x H1=>∃c,x=.bl c/\if c=true then tb σ H1 Q else Q (.bl false) H1
def IU(ta tb:TE):TE:=fun σ H Q=>ta σ H fun x H1=>∃c,x=.bl c/\if c=true then Q (.bl true) H1 else tb σ H1 Q
def EJ(ta:TE):TE:=fun σ H Q=>ta σ H fun x H1=>∃c,x=.bl c/\Q (.bl (!c)) H1
theorem gr{e}{t:TE}(h:PE X a t):PE X (.BoolOp e [a] pos) t:=fun f s σ H Q I g=>BoolOp_one (h f s σ H Q I g)
theorem gu(k:PE X a ta)(l:PE X (.BoolOp .And (b::rest) pos) tb):PE X (.BoolOp .And (a::b::rest) pos) (iK ta tb):=by
 intro g s σ H Q I h;refine BoolOp_and (cA (k g s σ H _ I h) fun v m f=>?_);obtain⟨x,i,j,n,e⟩:=f;obtain⟨c,rfl,e⟩:=e;cases n;refine nW ?_;cases c with
 |true=>exact l g m σ i Q j e
 |false=>exact⟨.bl false,i,j,rfl,e⟩
theorem Im(k:PE X a ta)(l:PE X (.BoolOp .Or (b::rest) pos) tb):PE X (.BoolOp .Or (a::b::rest) pos) (IU ta tb):=by
 intro g s σ H Q I h;refine BoolOp_or (cA (k g s σ H _ I h) fun v m f=>?_);obtain⟨x,i,j,n,e⟩:=f;obtain⟨c,rfl,e⟩:=e;cases n;refine nW ?_;cases c with
 |false=>exact l g m σ i Q j e
 |true=>exact⟨.bl true,i,j,rfl,e⟩
theorem Jp(g:PE X a ta):PE X (.UnaryOp .Not a pos) (EJ ta):=by
 intro i s σ H Q I h;refine UnaryOp_ (cA (g i s σ H _ I h) fun v m e=>?_);obtain⟨x,j,k,l,f⟩:=e;obtain⟨c,rfl,f⟩:=f;cases l;exact not_of (nW ⟨.bl (!c),j,k,rfl,f⟩)
def tIf(t:TT)(ta tb:TE):TE:=fun σ H Q=>t σ H fun c H1=>if c=true then ta σ H1 Q else tb σ H1 Q
theorem FA{c:Expr}(l:PT X c tA)(m:PE X a ta)(n:PE X b tb):PE X (.IfExp c a b pos) (tIf tA ta tb):=by
 intro e s σ H Q I h;refine wpAny_IfExp (cA (l e s σ H _ I h) fun d g f=>?_);obtain⟨i,j,k⟩:=f;cases d with
 |true=>exact m e g σ i Q j k
 |false=>exact n e g σ i Q j k
end
end L2
namespace L2
open PySem PySem.Spec PyProof.Rows
def aA(K:Za)(H:Hp)(a:Addr)(xs:List V):Prop :=
 Rd H a (.lst xs) ∨
  ∃(o:Obj) (its:Array Value) (n:Nat),K.lookup a=some o/\o.cls=.type "list"/\o.dict=none/\o.data=.seq its n/\its.size<=ao/\bg xs its.toList
def cq(K:Za)(H:Hp)(a:Addr)(xs:List V):Prop :=
 Rd H a (.tup xs) ∨
  ∃(o:Obj) (its:Array Value) (n:Nat),K.lookup a=some o/\o.cls=.type "tuple"/\o.data=.seq its n/\its.size<=ao/\bg xs its.toList
def absV:Value->Option V
 |.none=>some .non
 |.bool b=>some (.bl b)
 |.int i _=>some (.int i)
 |.str x _=>some (.str x)
 |.bytes b _=>some (.byt b)
 |.float b _=>some (.flt b)
 |.ref a=>some (.ref a)
 |.type n=>some (.ty n)
 |_=>none
theorem RelV.abs{x:V}{u:Value}(r:RelV x u):absV u=some x:=by
 cases x with
 |non=>cases r;rfl
 |bl _=>cases r;rfl
 |int _=>obtain⟨t,rfl⟩:=r;rfl
 |str _=>obtain⟨t,rfl⟩:=r;rfl
 |byt _=>obtain⟨t,rfl⟩:=r;rfl
 |flt _=>obtain⟨t,rfl⟩:=r;rfl
 |ref _=>cases r;rfl
 |ty _=>cases r;rfl
theorem RelV.inj{x y:V}{u:Value}(r:RelV x u)(q:RelV y u):x=y:=d4 (r.abs.symm.trans q.abs)
theorem bg.inj{xs a:List V}{e:Zf}(h:bg xs e)(f:bg a e):xs=a:=by
 induction h generalizing a with
 |nil=>cases f;rfl
 |cons r _ g =>
  cases f with
  |cons i j=>rw[r.inj i,g j]
section
variable{X:Cx}{J6:Zd}{σ:St}{H:Hp}{s:Shared}{a:Addr}{xs ys:List V}
theorem aA.of{K:Za}(h:H a=some (.lst xs)):aA K H a xs:=.inl (.inl h)
theorem cq.of{K:Za}(h:H a=some (.tup xs)):cq K H a xs:=.inl (.inl h)
theorem Inv.list(I:Inv X J6 σ H s)(h:aA X.K H a xs):∃f:List Value,bg xs f/\PlainL s.heap a f.toArray/\xs.length<=ao:=by
 rcases h with h|⟨o,f,n,g,i,j,k,l,r⟩
 ·obtain⟨z,f,n,r,e⟩:=h.ok I.hok;exact⟨f,r,⟨_,n,e,rfl,rfl,rfl⟩,z⟩
 ·refine⟨f.toList,r,⟨o,n,I.kIn a o g,i,j,by simpa using k⟩,?_⟩;have e:=r.length;simp only[rg]at e;omega
theorem Inv.tuple(I:Inv X J6 σ H s)(h:cq X.K H a xs):∃f:List Value,bg xs f/\IsTup s.heap a f.toArray/\xs.length<=ao:=by
 rcases h with h|⟨o,f,n,g,i,j,k,r⟩
 ·obtain⟨z,f,r,p⟩:=h.ok I.hok;exact⟨f,r,p,z⟩
 ·refine⟨f.toList,r,⟨o,I.kIn a o g,i,n,by simpa using j⟩,?_⟩;have e:=r.length;simp only[rg]at e;omega
theorem Inv.list_inj(I:Inv X J6 σ H s)(h:aA X.K H a xs)(k:aA X.K H a ys):xs=ys:=by
 obtain⟨g,r,⟨o,n,e,_,_,d⟩,_⟩:=I.list h;obtain⟨f,l,⟨p,q,i,_,_,j⟩,_⟩:=I.list k;rw[e]at i;cases i;rw[d]at j;injection j with m _;have:g=f:=by simpa using congrArg Array.toList m
 subst this;exact r.inj l
theorem Inv.tuple_inj(I:Inv X J6 σ H s)(h:cq X.K H a xs)(k:cq X.K H a ys):xs=ys:=by
 obtain⟨g,r,⟨o,e,_,n,d⟩,_⟩:=I.tuple h;obtain⟨f,l,⟨p,i,_,q,j⟩,_⟩:=I.tuple k;rw[e]at i;cases i;rw[d]at j;injection j with m _;have:g=f:=by simpa using congrArg Array.toList m
 subst this;exact r.inj l
end
abbrev Cx.wish(X:Cx)(E:Zc):Cx:={ X with xe:=E }
abbrev Cx.nox(X:Cx):Cx:=X.wish fun _ _=>False
theorem Cx.Ok.wish{X:Cx}(ok:X.Ok)(E:Zc):(X.wish E).Ok :=
 ⟨ok.mod,ok.kind,ok.glob,ok.blt,ok.above,ok.inj,ok.has,ok.cab,ok.hd,ok.frames,ok.stk,ok.exf,ok.bs,ok.bsz,ok.noex,ok.exfs,ok.funs,ok.frf⟩
theorem Cx.Ok.unwish{X:Cx}{E:Zc}(ok:(X.wish E).Ok):X.Ok :=
 ⟨ok.mod,ok.kind,ok.glob,ok.blt,ok.above,ok.inj,ok.has,ok.cab,ok.hd,ok.frames,ok.stk,ok.exf,ok.bs,ok.bsz,ok.noex,ok.exfs,ok.funs,ok.frf⟩
section
variable{X:Cx}{J6:Zd}{σ:St}{H:Hp}{s:Shared}{E:Zc}
theorem Inv.wish(I:Inv X J6 σ H s)(E:Zc):Inv (X.wish E) J6 σ H s:=⟨I.ok.wish E,I.os,I.bare,I.base,I.loc,I.cell,I.free,I.freeC,I.pin,I.hok,I.len⟩
theorem Inv.unwish(I:Inv (X.wish E) J6 σ H s):Inv X J6 σ H s:=⟨I.ok.unwish,I.os,I.bare,I.base,I.loc,I.cell,I.free,I.freeC,I.pin,I.hok,I.len⟩
theorem SP.unwish{D:iw}{f:Flow}{e:Shared}(h:SP (X.wish E) J6 D f e):SP X J6 D f e:=by
 cases f with
 |next=>obtain⟨σ',a,I,q⟩:=h;exact⟨σ',a,I.unwish,q⟩
 |brk=>obtain⟨σ',a,I,q⟩:=h;exact⟨σ',a,I.unwish,q⟩
 |cont=>obtain⟨σ',a,I,q⟩:=h;exact⟨σ',a,I.unwish,q⟩
 |ret u=>obtain⟨v,σ',a,I,r,q⟩:=h;exact⟨v,σ',a,I.unwish,r,q⟩
theorem yJ.nox{st:List Stmt}{t:TS}(h:yJ X.nox st t):yJ X st t:=fun J6 s σ H D I a =>
 dF (h J6 s σ H D (I.wish _) a) (fun _ _ q=>q.unwish) fun _ _ z=>df z
end
section
variable{X:Cx}{st:Stmt}{rest:List Stmt}{t u:TS}{e:Expr}{te:TE}{pos:Pos}
def br:TS:=fun D σ H=>D.nx σ H
def au(t u:TS):TS:=fun D σ H=>t { D with nx:=u D } σ H
theorem aO:yJ X [] br:=fun _ _ σ H _ I h=>rf ⟨σ,H,I,h⟩
theorem ac(g:PS X st t)(i:yJ X rest u):yJ X (st::rest) (au t u):=by
 intro a s σ H D I h;refine B3 (cA (g a s σ H { D with nx:=u D } I h) fun f j q=>?_);cases f with
 |next =>
  obtain⟨σ',k,l,q⟩:=q;exact i a j σ' k D l q
 |ret v=>exact q
 |brk=>exact q
 |cont=>exact q
theorem ag(a:PS X st t):yJ X [st] t:=by
 intro g s σ H D I h;refine B3 (cA (a g s σ H D I h) fun f i q=>?_);cases f with
 |next=>exact rf q
 |ret v=>exact q
 |brk=>exact q
 |cont=>exact q
theorem Inv.quiet{a:Zd}{σ:St}{H:Hp}{s:Shared}(I:Inv X a σ H s):interactive X.env=false:=by simp[interactive,I.ok.kind]
def dB(te:TE):TS:=fun D σ H=>te σ H fun _ H1=>D.nx σ H1
theorem bN(a:PE X e te)(f:mz e none pos.line X.env=pure false:=by rfl):PS X (.Expr e pos) (dB te):=by
 intro g s σ H D I h;exact wpAny_Expr_any (cA (a g s σ H _ I h) fun v l ⟨x,i,j,m,k⟩=>⟨σ,i,j,k⟩) I.quiet f
def bf(te:TE):TS:=fun D σ H=>te σ H D.rt
theorem ax(a:PE X e te):PS X (.Return (some e) pos) (bf te):=by
 intro f s σ H D I h;exact wpAny_Return_some (cA (a f s σ H _ I h) fun v l ⟨x,g,i,j,k⟩=>⟨x,σ,g,i,j,k⟩)
def cu(c:TT)(t u:TS):TS:=fun D σ H=>c σ H fun b H1=>if b=true then t D σ H1 else u D σ H1
theorem bz{c:Expr}{a b:List Stmt}{i:TT}(n:PT X c i)(o:yJ X a t)(p:yJ X b u):PS X (.If c a b pos) (cu i t u):=by
 intro f s σ H D I h;refine wpAny_If (cA (n f s σ H _ I h) fun d j g=>?_);obtain⟨k,l,m⟩:=g;cases d with
 |true=>exact o f j σ k D l m
 |false=>exact p f j σ k D l m
end
abbrev TG:=V->St->Hp->(St->Hp->Prop)->Prop
abbrev yV:=List V->St->Hp->(St->Hp->Prop)->Prop
def PG(X:Cx)(target:Expr)(t:TG):Prop :=
 ∀(J6:Zd) (s:Shared) (σ:St) (H:Hp) (v:V) (u:Value) (Q:St->Hp->Prop),Inv X J6 σ H s->RelV v u->t v σ H Q ->
  wpAny (model X.prog X.w) X.A (assign target X.env u) (fun _ s'=>∃σ' H',Inv X J6 σ' H' s'/\Q σ' H') X.xe s
def KQ(X:Cx)(ts:List Expr)(t:yV):Prop :=
 ∀(J6:Zd) (s:Shared) (σ:St) (H:Hp) (vs:List V) (us:Zf) (Q:St->Hp->Prop),Inv X J6 σ H s->bg vs us->t vs σ H Q ->
  wpAny (model X.prog X.w) X.A (assignInOrder ((rc ts X.env).map (·.2)) us) (fun _ s'=>∃σ' H',Inv X J6 σ' H' s'/\Q σ' H') X.xe s
abbrev JQ:=V->V->V->Hp->(Hp->Prop)->Prop
def KP(X:Cx)(t:JQ):Prop :=
 ∀(J6:Zd) (s:Shared) (σ:St) (H:Hp) (o i v:V) (ov iv u:Value) (Q:Hp->Prop),Inv X J6 σ H s->RelV o ov->RelV i iv->RelV v u->t o i v H Q ->
  wpAny (model X.prog X.w) X.A (setItem ov iv u) (fun _ s'=>∃H',Inv X J6 σ H' s'/\Q H') X.xe s
section
variable{X:Cx}{pos:Pos}
def d_(i:Nat):TG:=fun v σ H Q=>Q (σ.set i (some v)) H
abbrev U0:TG:=d_ 0
abbrev U1:TG:=d_ 1
abbrev U2:TG:=d_ 2
abbrev U3:TG:=d_ 3
abbrev U4:TG:=d_ 4
abbrev U5:TG:=d_ 5
abbrev U6:TG:=d_ 6
abbrev U7:TG:=d_ 7
abbrev U8:TG:=d_ 8
abbrev U9:TG:=d_ 9
abbrev U10:TG:=d_ 10
abbrev U11:TG:=d_ 11
abbrev U12:TG:=d_ 12
theorem CB{i:Nat}{x:Str}(a:X.N.Nodup)(hi:X.N[i]?=some x)(hx:Loc X.env.scope x)(hf:X.fn x=true∨X.env.scope.names.lookup x=some .local:=by first|exact .inl rfl|exact .inr rfl|assumption):PG X (.Name x pos) (d_ i):=by
 intro f s σ H v u Q I r h;exact wpAny_assign_Name (ol I a hi hx r (fun g e=>⟨_,H,e,h⟩) hf)
def io:yV:=fun vs σ H Q=>vs=[]/\Q σ H
def bt(t:TG)(u:yV):yV:=fun vs σ H Q=>∃v r,vs=v::r/\t v σ H fun σ' H'=>u r σ' H' Q
theorem cP:KQ X [] io:=by
 intro a s σ H f g Q I r h;obtain⟨e,h⟩:=h;subst e;cases r;exact assignInOrder_nil ⟨σ,H,I,h⟩
theorem aE{e:Expr}{a:List Expr}{t:TG}{u:yV}(i:PG X e t)(j:KQ X a u)
  (k:(rc (e::a) X.env).map (·.2)=assign e X.env::(rc a X.env).map (·.2):=by rfl):KQ X (e::a) (bt t u):=by
 intro g s σ H w x Q I r h;obtain⟨v,y,l,h⟩:=h;subst l;cases r with
 |cons r m =>
  rw[k];refine assignInOrder_cons (cA (i g s σ H _ _ _ I r h) fun _ n f=>?_);obtain⟨σ1,o,p,q⟩:=f;exact j g n σ1 o _ _ Q p m q
def iT(K:Za)(n:Nat)(t:yV):TG:=fun v σ H Q=>∃a xs,v=.ref a/\cq K H a xs/\xs.length=n/\t xs σ H Q
theorem eA{f:List Expr}{k:Nat}{t:yV}{n:Nat}(m:X.calm=true)(h:KQ X f t)
  (p:(rc f X.env).length=n:=by rfl) (g:(rc f X.env).findIdx? (·.1)=none:=by rfl):PG X (.Tuple f k pos) (iT X.K n t):=by
 intro j s σ H v u Q I r i;obtain⟨a,xs,q,w,x,i⟩:=i;subst q;cases r;obtain⟨y,l,z,D⟩:=I.tuple w;refine assign_Tuple_tuple (I.ok.hd m) z (by simp[p,<-x,l.length]) g fun B hx=>?_;have C:Inv X j σ H { s with heap:=B }:=I.kept (t':=s.toks) fun b o e=>hx b o (cw (aQ e)) e;exact h j _ σ H xs _ Q C (by simpa using l) i
def ux(to ti:TE)(t:JQ):TG:=fun v σ H Q=>to σ H fun o H1=>ti σ H1 fun i H2=>t o i v H2 fun H3=>Q σ H3
theorem kj{o i:Expr}{to j:TE}{t:JQ}(k:PE X o to)(hi:PE X i j)(l:KP X t)
  (m:∀v,assign (.Subscript o i pos) X.env v=(do
   let e <- nS [v] (eval o X.env)
   let f <- nS [v,e] (eval i X.env)
   vB pos
   nS [v,e,f] (setItem e f v)
   release [v,e,f] []):=by intro _;rfl):PG X (.Subscript o i pos) (ux to j t):=by
 intro g s σ H v u Q I r h;rw[m];refine ar (kW (cA (k g s σ H _ I h) fun e n a=>?_));obtain⟨x,p,q,w,z⟩:=a;refine ar (kW (cA (hi g n σ p _ q z) fun f B a=>?_));obtain⟨y,C,D,E,G⟩:=a;refine ar (q_ (ar (kW (cA (l g B σ C x y v e f u _ D w E r G) fun _ N a=>?_))));obtain⟨J,L,M⟩:=a;exact wpAny_release ⟨σ,J,L,M⟩
def aN(te:TE)(g:TG):TS:=fun D σ H=>te σ H fun x H1=>g x σ H1 D.nx
theorem iP{tg e:Expr}{f:TE}{g:TG}(j:PE X e f)(k:PG X tg g)(l:swapsWithSole [tg] e pos.line X.env=pure false:=by rfl)(m:swappedStores [tg] e X.env=pure none:=by rfl)
  (n:(rc [tg] X.env).map (·.2)=[assign tg X.env]:=by rfl):PS X (.Assign [tg] e pos) (aN f g):=by
 intro i s σ H D I h;refine wpAny_Assign_stores (cA (j i s σ H _ I h) fun v o a=>?_) l m;obtain⟨x,p,r,t,u⟩:=a;rw[n];exact cA (k i o σ p x v _ r t u) fun _ w q=>q
theorem Jj{i:Nat}{x:Str}{e:Expr}{g:TE}{a:Pos}(j:X.N.Nodup)(hi:X.N[i]?=some x)(hx:Loc X.env.scope x)(k:PE X e g)(l:mz e (some (.Name x a)) pos.line X.env=pure false:=by rfl)(hf:X.fn x=true∨X.env.scope.names.lookup x=some .local:=by first|exact .inl rfl|exact .inr rfl|assumption):
  PS X (.Assign [.Name x a] e pos) (aN g (d_ i)):=by
 intro m s σ H D I h;refine wpAny_Assign_Name (cA (k m s σ H _ I h) fun v t f=>?_) l;obtain⟨y,n,o,p,q⟩:=f;exact ol o j hi hx p (fun u r=>⟨_,n,r,q⟩) hf
end
section
variable{X:Cx}{pos:Pos}
def AH(c:TT)(tb:TS):TS:=fun D σ H=>∃W:Nat->St->Hp->Prop,(∃m,W m σ H)/\∀m σ H,W m σ H ->
 c σ H fun b H1=>if b=true then ∃N:St->Hp->Prop,(∀σ' H',N σ' H'->∃m',m'<m/\W m' σ' H')/\tb { D with nx:=N,ct:=N,bk:=D.nx } σ H1 else D.nx σ H1
theorem zH{c:Expr}{body:List Stmt}{p:TT}{q:TS}(r:B2 (model X.prog X.w) X.A X.env X.xe)(B:PT X c p)(C:yJ X body q):PS X (.While c body [] pos) (AH p q):=by
 intro J6 s σ H D I h;obtain⟨W,⟨E,G⟩,turn⟩:=h;refine wpAny_While (codeAny_whileLoop (fun n J=>∃σ' t,Inv X J6 σ' t J/\W n σ' t) ?_ E ⟨σ,H,I,G⟩);rintro n L ⟨σ1,u,M,O⟩;refine kJ r (cA (B J6 L σ1 u _ M (turn n σ1 u O)) fun b Q i=>?_);obtain⟨x,y,e⟩:=i;cases b with
 |true =>
  obtain⟨N,z,e⟩:=e;rw[if_pos rfl];refine kJ r (cA (C J6 Q σ1 x _ y e) fun f T g=>?_);cases f with
  |next =>
   obtain⟨σ3,a,j,k⟩:=g;obtain⟨l,m,o⟩:=z σ3 a k;exact⟨l,m,σ3,a,j,o⟩
  |cont =>
   obtain⟨σ3,a,j,k⟩:=g;obtain⟨l,m,o⟩:=z σ3 a k;exact⟨l,m,σ3,a,j,o⟩
  |brk=>exact g
  |ret v=>exact g
 |false =>
  rw[if_neg jG];exact rf ⟨σ1,x,y,e⟩
end
structure It where
 go:Nat->Hp->Prop
 yld:Nat->Hp->V->Hp->Prop
 stop:Nat->Hp->Prop
def lN(X:Cx)(J6:Zd)(H:Hp)(b:Addr):Prop :=
 H b=none/\b≠X.env.locals/\b∉X.fs/\(b∈X.ex∨X.s₀.heap.objs.size<=b)/\(∀x c,X.env.cells.lookup x=some c->c≠b)/\∀p∈X.pn++J6,p.1≠b
theorem Inv.fpOk{X:Cx}{f:Zd}{σ:St}{H g:Hp}{s:Shared}{b:Addr}(I:Inv X f σ H s)(a:s.heap.objs.size<=b)(h:g b=none):lN X f g b:=by
 refine⟨h,eV (ft I.lt a),I.nofs a,.inr (aP I.sz a),fun x c e z=>?_,fun p i z=>?_⟩
 ·obtain⟨v,q⟩:=I.cell x c e;exact absurd (ft q.lt (by rw[z];exact a)) (mC _)
 ·exact absurd (ft (aQ (I.pin p i).1) (by rw[z];exact a)) (mC _)
structure vp(P:bF)(w:World)(K:Za)(tg:Expr)(J:It)(fp:Ze)(it:Addr)(tn:Nat->Heap->Prop):Prop where
 mem:it∈fp
 obj:∀i h,tn i h->∀b∈fp,∃o,h.get? b=some o/\∀v,o.data≠.cell v
 keep:∀i h h',tn i h->(∀b∈fp,∀o,h.get? b=some o->h'.get? b=some o)->tn i h'
 item:∀(X:Cx),X.prog=P->X.w=w->X.K=K->X.calm=true->∀(i:Nat) (J6:Zd) (s:Shared) (σ:St) (H:Hp) (E:Zc),Inv X J6 σ H s->(∀b∈fp,lN X J6 H b)->tn i s.heap->J.go i H ->
  wpAny (model P w) X.A (pyNext (.ref it)) (fun r s1=>∃u,r=some u /\
   wpAny (model P w) X.A (B1 tg (.ref it) u) (fun _ s2=>∃x H',Inv X J6 σ H' s2/\RelV x u/\J.yld i H x H'/\tn (i+1) s2.heap/\∀b∈fp,H' b=none) E s1) E s
 done:∀(X:Cx),X.prog=P->X.w=w->X.K=K->X.calm=true->∀(i:Nat) (J6:Zd) (s:Shared) (σ:St) (H:Hp) (E:Zc),Inv X J6 σ H s->(∀b∈fp,lN X J6 H b)->tn i s.heap->J.stop i H ->
  wpAny (model P w) X.A (pyNext (.ref it)) (fun r s1=>r=none/\Inv X J6 σ H s1) E s
 self:∀(A:Around) (i:Nat) (s:Shared) (Q:Zc) (E:Zc),tn i s.heap->Q (.ref it) s->wpAny (model P w) A (pyIter (.ref it)) Q E s
abbrev TI:=St->Hp->(It->Hp->Prop)->Prop
def PIE(X:Cx)(J6:Zd)(σ:St)(tg:Expr)(R:It->Hp->Prop)(itv:Value)(s2:Shared):Prop :=
 ∃(it:Addr) (fp:Ze) (tn:Nat->Heap->Prop) (J:It) (H':Hp),itv=.ref it/\Inv X J6 σ H' s2/\vp X.prog X.w X.K tg J fp it tn/\tn 0 s2.heap/\(∀b∈fp,lN X J6 H' b)/\R J H'
def PI(X:Cx)(tg iter:Expr)(wi:TI):Prop :=
 ∀(J6:Zd) (s:Shared) (σ:St) (H:Hp) (R:It->Hp->Prop),Inv X J6 σ H s->wi σ H R ->
  wpAny (model X.prog X.w) X.A (eval iter X.env) (fun v s1=>wpAny (model X.prog X.w) X.A (pyIter v) (PIE X J6 σ tg R) X.xe s1) X.xe s
theorem zV{M:Model}{A:Around}{E:Zc}{s:Shared}{e:Expr}{it:Addr}{u:Value}{o:Obj}{n:String}{f:Array Value}{Q:Unit->Shared->Prop}(g:s.heap.get? it=some o)(i:o.cls=.type n)(j:o.data=.fields f)
    (k:["enumerate","zip","dict_itemiterator","dict_reverseitemiterator","odict_iterator","itertools.zip_longest","itertools.pairwise"].contains n=false) (a:Q () s):wpAny M A (B1 e (.ref it) u) Q E s:=by
  unfold B1;cases e<;>first
    |exact be a
    | (cases u <;> first
        |exact be a
        | (refine ar (wpAny_load g ?_)
           rw[i,j];show wpAny M A (if(["enumerate","zip","dict_itemiterator","dict_reverseitemiterator","odict_iterator","itertools.zip_longest","itertools.pairwise"].contains n && f[0]?==some (rawInt _))=true then _ else _) Q E s
           rw[if_neg (by intro h;rw[k,y0]at h;cases h)];exact be a))
def IK(K:Za)(a:Addr):It :=
 ⟨fun i H=>∃xs x,aA K H a xs/\xs[i]?=some x,fun i H x H'=>H'=H/\∀xs,aA K H a xs->xs[i]?=some x,fun i H=>∃xs,aA K H a xs/\xs.length<=i⟩
def Kf(K:Za)(a:Addr):It :=
 ⟨fun i H=>∃xs x,cq K H a xs/\xs[i]?=some x,fun i H x H'=>H'=H/\∀xs,cq K H a xs->xs[i]?=some x,fun i H=>∃xs,cq K H a xs/\xs.length<=i⟩
def JZ(lo:Int)(n:Nat):It:=⟨fun i _=>i<n,fun i H x H'=>H'=H/\x=.int (lo+i),fun i _=>n<=i⟩
theorem vG{P:bF}{w:World}{K:Za}{N:Expr}(a it:Addr):vp P w K N (IK K a) [it] it (fun i h=>h.IsListIter it a i) where
 mem:=by simp
 obj:=fun i h st b f=>by
  have e:b=it:=by simpa using f
  subst e;obtain⟨o,e,c,d⟩:=st;exact⟨o,e,fun v z=>by rw[d]at z;cases z⟩
 keep:=fun i h j st k=>st.at fun o e=>k it (by simp) o e
 item:=by
  intro X m n q L i M s σ H E I hf st r;subst m n q;obtain⟨xs,x,l,hx⟩:=r;obtain⟨t,y,p,O⟩:=I.list l;obtain⟨u,Q,T⟩:=y.get hx;obtain⟨B,C,U,D,G,J⟩:=hf it (by simp);refine wpAny_pyNext_list_item st p.isList (x:=u) (by simpa using Q) fun j g Y=>?_;have I1:Inv X M σ H { s with heap:=j }:=I.turned (t':=s.toks) (fun b o f e=>(Y.2 b f).trans e) B C D G J;obtain⟨o,e,c,d⟩:=id g;exact⟨u,rfl,zV (s:={ s with heap:=j }) e c d (by decide) ⟨x,H,I1,T,⟨rfl,fun ys hy=>by rw[I.list_inj hy l];exact hx⟩,g,fun b f=>(hf b f).1⟩⟩
 done:=by
  intro X m n q L i M s σ H E I hf st r;subst m n q;obtain⟨xs,l,hx⟩:=r;obtain⟨t,y,p,O⟩:=I.list l;obtain⟨B,C,U,D,G,J⟩:=hf it (by simp);have hl:=y.length;exact wpAny_pyNext_list_end (I.ok.hd L) st p.isList (by simp;omega) fun j eb=>⟨rfl,I.turned (t':=s.toks) (fun b o f e=>eb b o f e) B C D G J⟩
 self:=fun _ _ _ _ _ st h=>wpAny_pyIter_listiter st h
theorem tE{P:bF}{w:World}{K:Za}{N:Expr}(a it:Addr):vp P w K N (Kf K a) [it] it (fun i h=>h.IsTupleIter it a i) where
 mem:=by simp
 obj:=fun i h st b f=>by
  have e:b=it:=by simpa using f
  subst e;obtain⟨o,e,c,d⟩:=st;exact⟨o,e,fun v z=>by rw[d]at z;cases z⟩
 keep:=fun i h l st k=>st.at fun o e=>k it (by simp) o e
 item:=by
  intro X n q r L i M s σ H E I hf st t;subst n q r;obtain⟨xs,x,m,hx⟩:=t;obtain⟨g,y,p,O⟩:=I.tuple m;obtain⟨u,Q,T⟩:=y.get hx;obtain⟨B,C,U,D,G,J⟩:=hf it (by simp);refine wpAny_pyNext_tuple_item st (show s.heap.IsTuple a g.toArray from p) (x:=u) (by simpa using Q) fun l j Y=>?_;have I1:Inv X M σ H { s with heap:=l }:=I.turned (t':=s.toks) (fun b o f e=>(Y.2 b f).trans e) B C D G J;obtain⟨o,e,c,d⟩:=id j;exact⟨u,rfl,zV (s:={ s with heap:=l }) e c d (by decide) ⟨x,H,I1,T,⟨rfl,fun ys hy=>by rw[I.tuple_inj hy m];exact hx⟩,j,fun b f=>(hf b f).1⟩⟩
 done:=by
  intro X n q r L i M s σ H E I hf st t;subst n q r;obtain⟨xs,m,hx⟩:=t;obtain⟨g,y,p,O⟩:=I.tuple m;obtain⟨B,C,U,D,G,J⟩:=hf it (by simp);have hl:=y.length;exact wpAny_pyNext_tuple_end (I.ok.hd L) st (show s.heap.IsTuple a g.toArray from p) (by simp;omega) fun l eb=>⟨rfl,I.turned (t':=s.toks) (fun b o f e=>eb b o f e) B C D G J⟩
 self:=fun _ _ _ _ _ st h=>wpAny_pyIter_tupleiter st h
theorem Ax{P:bF}{w:World}{K:Za}{D:Expr}(it:Addr)(lo:Int)(n:Nat):vp P w K D (JZ lo n) [it] it (fun i h=>IsRangeIter h it (lo+(i:Nat) * 1) ((n:Int)-(i:Nat)) 1) where
 mem:=by simp
 obj:=fun i h st b a=>by
  have e:b=it:=by simpa using a
  subst e;exact⟨_,st,fun v z=>by
   have G:Data.fields _=Data.cell v:=z;cases G⟩
 keep:=fun i h g st k=>k it (by simp) _ st
 item:=by
  intro X j l m p i C s σ H E I hf st q;subst j l m;obtain⟨r,u,J,x,y,B⟩:=hf it (by simp);have W:=Walks.range (prog:=X.prog) (w:=X.w) (I.ok.hd p) it lo 1 n;refine W.item i s _ _ q st fun v g tk L f M=>?_;obtain⟨t,rfl⟩:=L;have N:Inv X C σ H { s with heap:=g,toks:=tk }:=I.turned (fun b o a e=>M b o (by simpa using a) e) r u x y B;refine⟨_,rfl,zV (s:={ s with heap:=g,toks:=tk }) (n:="range_iterator") f rfl rfl (by decide) ⟨.int (lo+i),H,N,⟨t,?_⟩,⟨rfl,rfl⟩,f,fun b a=>(hf b a).1⟩⟩;rw[Int.mul_one]
 done:=by
  intro X j l m p i C s σ H E I hf st q;subst j l m;obtain⟨r,u,J,x,y,B⟩:=hf it (by simp);exact wpAny_pyNext_range_end (I.ok.hd p) st (by have:n<=i:=q;omega) fun g O=>⟨rfl,I.turned (t':=s.toks) (fun b o a e=>O b o a e) r u x y B⟩
 self:=fun _ _ _ _ _ st h=>wpAny_pyIter_rangeiter st h
end L2
namespace L2
open PySem PySem.Spec PyProof.Rows
section
variable{X:Cx}{tg:Expr}
def dS(K:Za)(tl:TE):TI:=fun σ H R=>tl σ H fun x H1=>∃a,x=.ref a/\(∃xs,aA K H1 a xs)/\R (IK K a) H1
def Jx(K:Za)(tl:TE):TI:=fun σ H R=>tl σ H fun x H1=>∃a,x=.ref a/\(∃xs,cq K H1 a xs)/\R (Kf K a) H1
theorem b9{l:Expr}{j:TE}(k:PE X l j):PI X tg l (dS X.K j):=by
 intro m s σ H R I h;refine cA (k m s σ H _ I h) fun v f i=>?_;obtain⟨x,n,g,r,t⟩:=i;obtain⟨a,e,⟨xs,u⟩,q⟩:=t;subst e;cases r;obtain⟨w,z,p,B⟩:=g.list u;refine B0 p.isList ?_;refine⟨f.heap.objs.size,[f.heap.objs.size],_,_,n,rfl,g.kept (t':=f.toks) fun b o e=>bh _ e,vG a _,⟨_,dJ _ rfl,rfl,rfl⟩,fun b y=>?_,q⟩;have e:b=f.heap.objs.size:=by simpa using y
 subst e;exact g.fpOk (aG _) (g.hok.fresh (aG _))
theorem Jk{l:Expr}{k:TE}(m:PE X l k):PI X tg l (Jx X.K k):=by
 intro n s σ H R I h;refine cA (m n s σ H _ I h) fun v f i=>?_;obtain⟨x,r,g,t,u⟩:=i;obtain⟨a,e,⟨xs,w⟩,q⟩:=u;subst e;cases t;obtain⟨j,z,p,B⟩:=g.tuple w;refine BZ (show f.heap.IsTuple a j.toArray from p) ?_;refine⟨f.heap.objs.size,[f.heap.objs.size],_,_,r,rfl,g.kept (t':=f.toks) fun b o e=>bh _ e,tE a _,⟨_,dJ _ rfl,rfl,rfl⟩,fun b y=>?_,q⟩;have e:b=f.heap.objs.size:=by simpa using y
 subst e;exact g.fpOk (aG _) (g.hok.fresh (aG _))
theorem Fl{a:Zd}{σ:St}{H:Hp}{s:Shared}{R:It->Hp->Prop}{E:Zc}{lo hi:Int}{t u v:Tok}{tk:Nat}(I:Inv X a σ H s)(g:-(2 ^ 62)<=lo)(h:lo<2 ^ 62)(i:-(2 ^ 62)<=hi)(j:hi<2 ^ 62)
  (q:R (JZ lo (hi-lo).toNat) H):wpAny (model X.prog X.w) X.A (pyIter (.ref s.heap.objs.size)) (PIE X a σ tg R) E { s with heap:=s.heap.push { cls:=.type "range",data:=.fields #[.int lo t,.int hi u,.int 1 v] },toks:=tk }:=by
 refine wpAny_pyIter_range (IsRange.new ..) (small_one g h i j) ?_;have f:Inv X a σ H { s with heap:=s.heap.push { cls:=.type "range",data:=.fields #[.int lo t,.int hi u,.int 1 v] },toks:=tk }:=I.kept fun b o e=>bh _ e;refine⟨(s.heap.push { cls:=.type "range",data:=.fields #[.int lo t,.int hi u,.int 1 v] }).objs.size,[(s.heap.push { cls:=.type "range",data:=.fields #[.int lo t,.int hi u,.int 1 v] }).objs.size],_,_,H,rfl,
  f.kept (t':=tk) fun b o e=>bh _ e,Ax _ lo (hi-lo).toNat,?_,fun b k=>?_,q⟩
 ·have l:lo+((0:Nat):Int) * 1=lo:=by simp
  have m:(((hi-lo).toNat:Nat):Int)-((0:Nat):Int)=cT.Range.rangeSize lo hi 1:=by rw[rangeSize_one];split<;>omega
  show IsRangeIter _ _ (lo+((0:Nat):Int) * 1) ((((hi-lo).toNat:Nat):Int)-((0:Nat):Int)) 1;rw[l,m];exact dJ _ rfl
 ·have e:b=(s.heap.push { cls:=.type "range",data:=.fields #[.int lo t,.int hi u,.int 1 v] }).objs.size:=by simpa using k
  subst e;exact f.fpOk (aG _) (f.hok.fresh (aG _))
def rG(ta:TA):TI:=fun σ H R=>ta σ H fun vs H1=>∃j:Int,vs=[.int j]/\-(2 ^ 62)<=j/\j<2 ^ 62/\R (JZ 0 j.toNat) H1
theorem iy{a:Expr}{k:TA}{p f:Pos}(l:Gl X "range")(m:X.mg "range"=none)(n:PA X [a] k)(o:aB [a] X.env=[(false,eval a X.env)]:=by rfl):PI X tg (.Call (.Name "range" p) [a] [] f) (rG k):=by
 intro u s σ H R I h;refine Call_ (qt I l m boot_range (BY (cA (n f u s σ H _ I h) fun z B g=>?_) o rfl));obtain⟨C,D,v,w,i⟩:=g;obtain⟨j,e,i,x,q⟩:=i;subst e;cases w with
 |cons r y =>
  cases y;obtain⟨t,rfl⟩:=r;exact call_range_1 (Fl v (by omega) (by omega) i x (by simpa using q))
def gk(wi:TI)(g:TG)(tb:TS):TS:=fun D σ H=>wi σ H fun J H1=>∃W:Nat->Nat->St->Hp->Prop,(∃m,W 0 m σ H1)/\∀i m σ H,W i m σ H ->
 (J.stop i H/\D.nx σ H)∨(J.go i H/\∃N:St->Hp->Prop,(∀σ' H',N σ' H'->∃m',m'<m/\W (i+1) m' σ' H')/\∀x H',J.yld i H x H'->g x σ H' fun σ2 H2=>tb { D with nx:=N,ct:=N,bk:=D.nx } σ2 H2)
def qe(fp:Ze)(h:Heap):List (Addr×Obj):=fp.filterMap fun b=>(h.get? b).map fun o=>(b,o)
theorem gy{fp:Ze}{h:Heap}{b:Addr}{o:Obj}(a:b∈fp)(e:h.get? b=some o):(b,o)∈qe fp h:=List.mem_filterMap.mpr ⟨b,a,by rw[e];rfl⟩
theorem DJ{a:Ze}{h:Heap}{p:Addr×Obj}(f:p∈qe a h):p.1∈a/\h.get? p.1=some p.2:=by
 obtain⟨b,g,e⟩:=List.mem_filterMap.mp f;cases q:h.get? b with
 |none=>rw[q]at e;cases e
 |some o =>
  rw[q]at e;have i:(b,o)=p:=d4 e;subst i;exact⟨g,q⟩
theorem Inv.pinned{a:Zd}{σ:St}{H:Hp}{s:Shared}{f:Ze}(I:Inv X a σ H s)(hf:∀b∈f,lN X a H b)(i:∀b∈f,∃o,s.heap.get? b=some o/\∀v,o.data≠.cell v):Inv X (a++qe f s.heap) σ H s :=
 I.pins_of fun p j=>(bu.mp j).elim (fun z=>I.pin p (dI _ z)) fun z=>by
  obtain⟨g,e⟩:=DJ z;obtain⟨k,l,m,_⟩:=hf p.1 g;obtain⟨o,h,d⟩:=i p.1 g;rw[e]at h;cases h;exact⟨e,k,l,m,d⟩
theorem Inv.unpinned{a pl:Zd}{σ:St}{H:Hp}{s:Shared}(I:Inv X (a++pl) σ H s):Inv X a σ H s:=I.pins_of fun p e=>I.pin p (dI _ (cL _ e))
theorem cK{j:Expr}{body:List Stmt}{wi:TI}{g:TG}{tb:TS}{Q:Pos}(C:B2 (model X.prog X.w) X.A X.env X.xe)(hc:X.calm=true)(hi:PI X tg j wi)(hg:PG X tg g)(k:yJ X body tb)
  (hs:∀x,vA j X.env x=pure x:=by intro _;rfl):PS X (.For tg j body [] Q) (gk wi g tb):=by
 intro z s σ H D I h;refine wpAny_For (cA (hi z s σ H _ I h) fun v s1 h1=>cA h1 fun aj s2 h2=>?_) hs;obtain⟨it,E,tn,J,H2,e,I2,T,U,f2,W,⟨m0,w0⟩,turn⟩:=h2;subst e;have l:∀{t:Hp},(∀b∈E,t b=none)->∀b∈E,lN X z t b:=fun hn b k=>⟨hn b k,(f2 b k).2⟩;refine codeAny_forLoop_any (fun n s'=>∃i σ' t,Inv X z σ' t s'/\tn i s'.heap/\(∀b∈E,t b=none)/\W i n σ' t) ?_ m0 ⟨0,σ,H2,I2,U,fun b k=>(f2 b k).1,w0⟩;rintro n s3 ⟨i,σ3,O,I3,G,L,w3⟩;rcases turn i n σ3 O w3 with⟨stop,qn⟩|⟨go,N,hN,step⟩
 ·refine kJ C (cA (T.done X rfl rfl rfl hc i z s3 σ3 O X.xe I3 (l L) G stop) fun r s4 a=>?_);obtain⟨Y,I4⟩:=a;subst Y;exact rf ⟨σ3,O,I4,qn⟩
 ·refine kJ C (cA (T.item X rfl rfl rfl hc i z s3 σ3 O X.xe I3 (l L) G go) fun r s4 a=>?_);obtain⟨u,Y,h4⟩:=a;subst Y;refine kJ C (cA h4 fun _ s5 a=>?_);obtain⟨x,H5,I5,r5,y5,B,ab⟩:=a;have ai:=I5.pinned (l ab) (T.obj _ _ B);refine kJ C (cA (hg _ s5 σ3 H5 x u _ ai r5 (step x H5 y5)) fun _ s6 a=>?_);obtain⟨σ6,H6,I6,q6⟩:=a;refine kJ C (cA (k _ s6 σ6 H6 _ I6 q6) fun f s7 y=>?_);have again:∀{σ7:St}{p:Hp},Inv X (z++qe E s5.heap) σ7 p s7->N σ7 p->∃m,m<n/\∃i σ' t,Inv X z σ' t s7/\tn i s7.heap/\(∀b∈E,t b=none)/\W i m σ' t:=fun{σ7 p} q M=>by
   obtain⟨m',hm,w7⟩:=hN σ7 p M;refine⟨m',hm,i+1,σ7,p,q.unpinned,T.keep _ _ _ B fun b k o e=>(q.pin (b,o) (dI _ (dI _ (gy k e)))).1,fun b k=>?_,w7⟩;obtain⟨o,e,d⟩:=T.obj _ _ B b k;exact(q.pin (b,o) (dI _ (dI _ (gy k e)))).2.1
  cases f with
  |next=>obtain⟨σ7,p,q,M⟩:=y;exact again q M
  |cont=>obtain⟨σ7,p,q,M⟩:=y;exact again q M
  |brk=>obtain⟨σ7,p,q,y⟩:=y;exact⟨σ7,p,q.unpinned,y⟩
  |ret v=>obtain⟨x7,σ7,p,q,r7,y⟩:=y;exact⟨x7,σ7,p,q.unpinned,r7,y⟩
end
theorem gZ{K:Za}{a:Addr}{xs:List V}{g:TG}{k:TS}{D:iw}{σ:St}{H:Hp}(Pv:Nat->St->Hp->Prop)(n:Pv 0 σ H)(o:∀i σ H,i<=xs.length->Pv i σ H->aA K H a xs)
  (r:∀i x σ H,xs[i]?=some x->Pv i σ H->g x σ H fun σ2 j=>k { D with nx:=Pv (i+1),ct:=Pv (i+1),bk:=D.nx } σ2 j) (s:∀σ H,Pv xs.length σ H->D.nx σ H) :
  ∃W:Nat->Nat->St->Hp->Prop,(∃m,W 0 m σ H)/\∀i m σ H,W i m σ H ->
   ((IK K a).stop i H/\D.nx σ H)∨((IK K a).go i H/\∃N:St->Hp->Prop,(∀σ' f,N σ' f->∃l,l<m/\W (i+1) l σ' f)/\∀x f,(IK K a).yld i H x f->g x σ f fun σ2 j=>k { D with nx:=N,ct:=N,bk:=D.nx } σ2 j):=by
 refine⟨fun i m σ H=>m=xs.length-i/\i<=xs.length/\Pv i σ H,⟨xs.length,by simp,cf _,n⟩,?_⟩;rintro i m σ H ⟨rfl,hi,p⟩;have q:=o i σ H hi p;by_cases h:i<xs.length
 ·refine .inr ⟨⟨xs,xs[i],q,by simp[h]⟩,Pv (i+1),fun σ' f t=>⟨xs.length-(i+1),by omega,rfl,h,t⟩,fun x f y=>?_⟩;obtain⟨e,y⟩:=y;subst e;exact r i x σ _ (y xs q) p
 ·have e:i=xs.length:=by omega
  subst e;exact .inl ⟨⟨xs,q,aG _⟩,s σ H p⟩
theorem HA{K:Za}{a:Addr}{xs:List V}{g:TG}{k:TS}{D:iw}{σ:St}{H:Hp}(Pv:Nat->St->Hp->Prop)(n:Pv 0 σ H)(o:∀i σ H,i<=xs.length->Pv i σ H->cq K H a xs)
  (r:∀i x σ H,xs[i]?=some x->Pv i σ H->g x σ H fun σ2 j=>k { D with nx:=Pv (i+1),ct:=Pv (i+1),bk:=D.nx } σ2 j) (s:∀σ H,Pv xs.length σ H->D.nx σ H) :
  ∃W:Nat->Nat->St->Hp->Prop,(∃m,W 0 m σ H)/\∀i m σ H,W i m σ H ->
   ((Kf K a).stop i H/\D.nx σ H)∨((Kf K a).go i H/\∃N:St->Hp->Prop,(∀σ' f,N σ' f->∃l,l<m/\W (i+1) l σ' f)/\∀x f,(Kf K a).yld i H x f->g x σ f fun σ2 j=>k { D with nx:=N,ct:=N,bk:=D.nx } σ2 j):=by
 refine⟨fun i m σ H=>m=xs.length-i/\i<=xs.length/\Pv i σ H,⟨xs.length,by simp,cf _,n⟩,?_⟩;rintro i m σ H ⟨rfl,hi,p⟩;have q:=o i σ H hi p;by_cases h:i<xs.length
 ·refine .inr ⟨⟨xs,xs[i],q,by simp[h]⟩,Pv (i+1),fun σ' f t=>⟨xs.length-(i+1),by omega,rfl,h,t⟩,fun x f y=>?_⟩;obtain⟨e,y⟩:=y;subst e;exact r i x σ _ (y xs q) p
 ·have e:i=xs.length:=by omega
  subst e;exact .inl ⟨⟨xs,q,aG _⟩,s σ H p⟩
theorem mf{lo:Int}{n:Nat}{g:TG}{j:TS}{D:iw}{σ:St}{H:Hp}(Pv:Nat->St->Hp->Prop)(l:Pv 0 σ H)
  (o:∀i σ H,i<n->Pv i σ H->g (.int (lo+i)) σ H fun σ2 h=>j { D with nx:=Pv (i+1),ct:=Pv (i+1),bk:=D.nx } σ2 h) (q:∀σ H,Pv n σ H->D.nx σ H) :
  ∃W:Nat->Nat->St->Hp->Prop,(∃m,W 0 m σ H)/\∀i m σ H,W i m σ H ->
   ((JZ lo n).stop i H/\D.nx σ H)∨((JZ lo n).go i H/\∃N:St->Hp->Prop,(∀σ' a,N σ' a->∃k,k<m/\W (i+1) k σ' a)/\∀x a,(JZ lo n).yld i H x a->g x σ a fun σ2 h=>j { D with nx:=N,ct:=N,bk:=D.nx } σ2 h):=by
 refine⟨fun i m σ H=>m=n-i/\i<=n/\Pv i σ H,⟨n,by simp,cf _,l⟩,?_⟩;rintro i m σ H ⟨rfl,hi,p⟩;by_cases f:i<n
 ·refine .inr ⟨f,Pv (i+1),fun σ' a r=>⟨n-(i+1),by omega,rfl,f,r⟩,fun x a y=>?_⟩;obtain⟨e,y⟩:=y;subst e y;exact o i σ _ f p
 ·have e:i=n:=by omega
  subst e;exact .inl ⟨aG _,q σ H p⟩
end L2
namespace L2
open PySem PySem.Spec PyProof.Rows
abbrev R2:=V->V->Hp->VK->Prop
def mK(X:Cx)(f:Value->Value->Sem Value)(r:R2):Prop :=
 ∀(J6:Zd) (s:Shared) (σ:St) (H:Hp) (x y:V) (v u:Value) (Q:VK),Inv X J6 σ H s->RelV x v->RelV y u->r x y H Q ->
  wpAny (model X.prog X.w) X.A (f v u) (EP X J6 σ Q) X.xe s
def UnR(X:Cx)(f:Value->Sem Value)(r:V->Hp->VK->Prop):Prop :=
 ∀(J6:Zd) (s:Shared) (σ:St) (H:Hp) (x:V) (v:Value) (Q:VK),Inv X J6 σ H s->RelV x v->r x H Q ->
  wpAny (model X.prog X.w) X.A (f v) (EP X J6 σ Q) X.xe s
def g7(X:Cx)(f:Value)(r:List V->Hp->VK->Prop):Prop :=
 ∀(J6:Zd) (s:Shared) (σ:St) (H:Hp) (xs:List V) (us:Zf) (Q:VK),Inv X J6 σ H s->bg xs us->r xs H Q ->
  wpAny (model X.prog X.w) X.A (call f us) (EP X J6 σ Q) X.xe s
def aI(r:R2)(ta tb:TE):TE:=fun σ H Q=>ta σ H fun x H1=>tb σ H1 fun y H2=>r x y H2 Q
def H_(r:V->Hp->VK->Prop)(ta:TE):TE:=fun σ H Q=>ta σ H fun x H1=>r x H1 Q
def rI(C:Int->Int->Prop)(g:Int->Int->V):R2:=fun x y H Q=>∃i j,x=.int i/\y=.int j/\C i j/\Q (g i j) H
def Cy(g:Int->Int->V):R2:=fun x y H Q=>∃i j,x=.int i/\y=.int j/\Q (g i j) H
def rU(g:Int->V):V->Hp->VK->Prop:=fun x H Q=>∃i,x=.int i/\Q (g i) H
section
variable{X:Cx}{a b c:Expr}{ta tb tc:TE}{pos:Pos}
theorem JN(n:PE X a ta)(o:PE X b tb){k:Zd}{s:Shared}{σ:St}{H:Hp}{R:V->V->Hp->Prop}(I:Inv X k σ H s)
  (h:ta σ H fun x m=>tb σ m fun y g=>R x y g) {Q:Zc}{f:Value->Value->Sem Value}
  (hf:∀v u l x y g,Inv X k σ g l->RelV x v->RelV y u->R x y g->wpAny (model X.prog X.w) X.A (f v u) Q X.xe l) :
  wpAny (model X.prog X.w) X.A (eval a X.env) (fun v i=>wpAny (model X.prog X.w) X.A (eval b X.env) (fun u j=>wpAny (model X.prog X.w) X.A (f v u) Q X.xe j) X.xe i) X.xe s:=by
 refine cA (n k s σ H _ I h) fun v p e=>?_;obtain⟨x,m,q,r,t⟩:=e;refine cA (o k p σ m _ q t) fun u l e=>?_;obtain⟨y,g,z,B,C⟩:=e;exact hf v u l x y g z r B C
theorem aM{e:Operator}{r:R2}(f:mK X (nR e) r)(g:PE X a ta)(i:PE X b tb):PE X (.BinOp a e b pos) (aI r ta tb):=by
 intro j s σ H Q I h;exact wpAny_BinOp (JN g i I h fun v u k x y l m n o q=>f j k σ l x y v u Q m n o q)
theorem t9{e:UnaryOp}{r:V->Hp->VK->Prop}(g:UnR X (unaryOp e) r)(i:PE X a ta):PE X (.UnaryOp e a pos) (H_ r ta):=by
 intro f s σ H Q I h;exact UnaryOp_ (cA (i f s σ H _ I h) fun v j ⟨x,k,l,m,n⟩=>g f j σ k x v Q l m n)
theorem K8{f:Value->Value->Sem Value}{C:Int->Int->Prop}{g:Int->Int->Int}
  (rule:∀(i j:Int) (t u:Tok) (s:Shared) (Q:Zc) (E:Zc),C i j->Q (.int (g i j) s.toks) { s with toks:=s.toks+1 }->wpAny (model X.prog X.w) X.A (f (.int i t) (.int j u)) Q E s) :
  mK X f (rI C fun i j=>.int (g i j)):=by
 intro n s σ H x y v u Q I e k h;obtain⟨i,j,rfl,rfl,l,q⟩:=h;obtain⟨t,rfl⟩:=e;obtain⟨m,rfl⟩:=k;exact rule i j t m s _ _ l ⟨.int (g i j),H,I.tok _,⟨_,rfl⟩,q⟩
theorem Kx{f:Value->Value->Sem Value}{g:Int->Int->Int}
  (rule:∀(i j:Int) (t u:Tok) (s:Shared) (Q:Zc) (E:Zc),Q (.int (g i j) s.toks) { s with toks:=s.toks+1 }->wpAny (model X.prog X.w) X.A (f (.int i t) (.int j u)) Q E s) :
  mK X f (Cy fun i j=>.int (g i j)):=by
 intro m s σ H x y v u Q I e k h;obtain⟨i,j,rfl,rfl,q⟩:=h;obtain⟨t,rfl⟩:=e;obtain⟨l,rfl⟩:=k;exact rule i j t l s _ _ ⟨.int (g i j),H,I.tok _,⟨_,rfl⟩,q⟩
theorem Hq{f:Value->Value->Sem Value}{g:Int->Int->Bool}
  (rule:∀(i j:Int) (t u:Tok) (s:Shared) (Q:Zc) (E:Zc),Q (.bool (g i j)) s->wpAny (model X.prog X.w) X.A (f (.int i t) (.int j u)) Q E s) :
  mK X f (Cy fun i j=>.bl (g i j)):=by
 intro m s σ H x y v u Q I e k h;obtain⟨i,j,rfl,rfl,q⟩:=h;obtain⟨t,rfl⟩:=e;obtain⟨l,rfl⟩:=k;exact rule i j t l s _ _ ⟨.bl (g i j),H,I,rfl,q⟩
def K2(i j:Int):Prop:=0<j/\j<1073741824
def K1(i j:Int):Prop:=0<=j/\j<=1000000/\i.natAbs<2 ^ 64
def GD(i j:Int):Prop:=(-(2 ^ 64)<i/\i<2 ^ 64)∨(-(2 ^ 64)<j/\j<2 ^ 64)
theorem GD.ok{i j:Int}(h:GD i j):IntMulOk i j:=by
 rcases h with⟨e,f⟩|⟨e,f⟩
 ·exact .of_left (intBits_le_64 e f)
 ·exact .of_right (intBits_le_64 e f)
theorem da:mK X (nR .Add) (Cy fun i j=>.int (i+j)):=Kx fun _ _ _ _ _ _ _ q=>add_int q
theorem Bd:mK X (nR .Sub) (Cy fun i j=>.int (i-j)):=Kx fun _ _ _ _ _ _ _ q=>sub_int q
theorem iR:mK X (nR .Mult) (rI GD fun i j=>.int (i * j)):=K8 fun _ _ _ _ _ _ _ e q=>mul_int q e.ok
theorem CG:mK X (nR .FloorDiv) (rI K2 fun i j=>.int (i / j)):=K8 fun i j _ _ _ _ _ e q=>by
 have f:(0:Int)<j:=e.1;have g:j<1073741824:=e.2;exact floordiv_int (by omega) (by rw[Int.fdiv_eq_ediv_of_nonneg i (by omega)];exact q) (.inl (PyProof.noPylong_small (by omega)))
theorem gv:mK X (nR .Mod) (rI (fun _ j=>0<j) fun i j=>.int (i % j)):=K8 fun i j _ _ _ _ _ e q=>by
 have f:(0:Int)<j:=e;exact mod_int' (by omega) (by rw[Int.fmod_eq_emod_of_nonneg i (by omega)];exact q)
theorem FI:mK X (nR .Pow) (rI K1 fun i j=>.int (i ^ j.toNat)):=K8 fun _ _ _ _ _ _ _ e q=>pow_int_small e.1 e.2.1 e.2.2 q
theorem unI{f:Value->Sem Value}{g:Int->Int}
  (rule:∀(i:Int) (t:Tok) (s:Shared) (Q:Zc) (E:Zc),Q (.int (g i) s.toks) { s with toks:=s.toks+1 }->wpAny (model X.prog X.w) X.A (f (.int i t)) Q E s) :
  UnR X f (rU fun i=>.int (g i)):=by
 intro j s σ H x v Q I e h;obtain⟨i,rfl,q⟩:=h;obtain⟨t,rfl⟩:=e;exact rule i t s _ _ ⟨.int (g i),H,I.tok _,⟨_,rfl⟩,q⟩
theorem m5:UnR X (unaryOp .USub) (rU fun i=>.int (-i)):=unI fun _ _ _ _ _ q=>neg_int q
end
def Kq:V->V->Bool
 |.non,.non=>true | .non,.int _=>true | .int _,.non=>true | .non,.bl _=>true | .bl _,.non=>true | .non,.str _=>true | .str _,.non=>true
 |.int _,.int _=>true | .bl _,.bl _=>true | .str _,.str _=>true | .byt _,.byt _=>true
 |.int _,.str _=>true | .str _,.int _=>true | .bl _,.str _=>true | .str _,.bl _=>true
 |_,_=>false
def mw:R2:=fun x y H Q=>Kq x y=true/\Q (.bl (decide (x=y))) H
def Hd:R2:=fun x y H Q=>Kq x y=true/\Q (.bl (!decide (x=y))) H
theorem C0{i j:Int}:decide (V.int i=V.int j)=(i==j):=by
 rw[q0];simp
theorem Gp{i j:Bool}:decide (V.bl i=V.bl j)=(i==j):=by
 rw[q0];simp
theorem CY{i j:Str}:decide (V.str i=V.str j)=(i==j):=by
 rw[q0];simp
theorem C2{i j:Array UInt8}:decide (V.byt i=V.byt j)=(i.toList==j.toList):=by
 rw[q0];cases i;cases j;simp
section
variable{X:Cx}{a b c:Expr}{ta tb tc:TE}{pos:Pos}
theorem bX{f:Zd}{σ:St}{H:Hp}{s:Shared}{Q:VK}{k g:Bool}(I:Inv X f σ H s)(q:Q (.bl k) H)(e:k=g):EP X f σ Q (.bool g) s:=by
 subst e;exact⟨.bl k,H,I,rfl,q⟩
theorem c7:mK X (eG .Eq) mw:=by
 intro l s σ H x y v u Q I k e h;obtain⟨g,q⟩:=h;cases x with
 |non =>
  cases k;cases y with
  |non=>cases e;exact PySem.EqNone.eq_none_none (bX I q (by simp))
  |bl j=>cases e;exact PySem.EqNone.eq_none_bool (bX I q (by simp))
  |int j=>obtain⟨f,rfl⟩:=e;exact PySem.EqNone.eq_none_int (bX I q (by simp))
  |str j=>obtain⟨f,rfl⟩:=e;exact PySem.EqNone.eq_none_str (bX I q (by simp))
  |_=>exact absurd (show false=true from g) jG
 |bl i =>
  cases k;cases y with
  |non=>cases e;exact PySem.EqNone.eq_bool_none (bX I q (by simp))
  |bl j=>cases e;exact eq_bool (bX I q Gp)
  |str j=>obtain⟨f,rfl⟩:=e;exact PySem.EqMixed.eq_bool_str (bX I q (by simp))
  |_=>exact absurd (show false=true from g) jG
 |int i =>
  obtain⟨t,rfl⟩:=k;cases y with
  |non=>cases e;exact PySem.EqNone.eq_int_none (bX I q (by simp))
  |int j=>obtain⟨f,rfl⟩:=e;exact eq_int (bX I q C0)
  |str j=>obtain⟨f,rfl⟩:=e;exact PySem.EqMixed.eq_int_str (bX I q (by simp))
  |_=>exact absurd (show false=true from g) jG
 |str i =>
  obtain⟨t,rfl⟩:=k;cases y with
  |non=>cases e;exact PySem.EqNone.eq_str_none (bX I q (by simp))
  |bl j=>cases e;exact PySem.EqMixed.eq_str_bool (bX I q (by simp))
  |int j=>obtain⟨f,rfl⟩:=e;exact PySem.EqMixed.eq_str_int (bX I q (by simp))
  |str j=>obtain⟨f,rfl⟩:=e;exact eq_str (bX I q CY)
  |_=>exact absurd (show false=true from g) jG
 |byt i =>
  obtain⟨t,rfl⟩:=k;cases y with
  |byt j=>obtain⟨f,rfl⟩:=e;exact PySem.W.eq_bytes (bX I q C2)
  |_=>exact absurd (show false=true from g) jG
 |_=>cases y<;>exact absurd (show false=true from g) jG
theorem zL:mK X (eG .NotEq) Hd:=by
 intro l s σ H x y v u Q I k e h;obtain⟨g,q⟩:=h;cases x with
 |non =>
  cases k;cases y with
  |non=>cases e;exact PySem.EqNone.ne_none_none (bX I q (by simp))
  |bl j=>cases e;exact PySem.EqNone.ne_none_bool (bX I q (by simp))
  |int j=>obtain⟨f,rfl⟩:=e;exact PySem.EqNone.ne_none_int (bX I q (by simp))
  |str j=>obtain⟨f,rfl⟩:=e;exact PySem.EqNone.ne_none_str (bX I q (by simp))
  |_=>exact absurd (show false=true from g) jG
 |bl i =>
  cases k;cases y with
  |non=>cases e;exact PySem.EqNone.ne_bool_none (bX I q (by simp))
  |bl j=>cases e;exact ne_bool (bX I q (congrArg not Gp))
  |str j=>obtain⟨f,rfl⟩:=e;exact PySem.EqMixed.ne_bool_str (bX I q (by simp))
  |_=>exact absurd (show false=true from g) jG
 |int i =>
  obtain⟨t,rfl⟩:=k;cases y with
  |non=>cases e;exact PySem.EqNone.ne_int_none (bX I q (by simp))
  |int j=>obtain⟨f,rfl⟩:=e;exact ne_int (bX I q (congrArg not C0))
  |str j=>obtain⟨f,rfl⟩:=e;exact PySem.EqMixed.ne_int_str (bX I q (by simp))
  |_=>exact absurd (show false=true from g) jG
 |str i =>
  obtain⟨t,rfl⟩:=k;cases y with
  |non=>cases e;exact PySem.EqNone.ne_str_none (bX I q (by simp))
  |bl j=>cases e;exact PySem.EqMixed.ne_str_bool (bX I q (by simp))
  |int j=>obtain⟨f,rfl⟩:=e;exact PySem.EqMixed.ne_str_int (bX I q (by simp))
  |str j=>obtain⟨f,rfl⟩:=e;exact ne_str (bX I q (congrArg not CY))
  |_=>exact absurd (show false=true from g) jG
 |byt i =>
  obtain⟨t,rfl⟩:=k;cases y with
  |byt j=>obtain⟨f,rfl⟩:=e;exact PySem.W.ne_bytes (bX I q (congrArg not C2))
  |_=>exact absurd (show false=true from g) jG
 |_=>cases y<;>exact absurd (show false=true from g) jG
theorem uc:mK X (eG .Lt) (Cy fun i j=>.bl (decide (i<j))):=Hq fun _ _ _ _ _ _ _ q=>lt_int q
theorem FK:mK X (eG .LtE) (Cy fun i j=>.bl (decide (i<=j))):=Hq fun _ _ _ _ _ _ _ q=>le_int q
theorem vZ:mK X (eG .Gt) (Cy fun i j=>.bl (decide (j<i))):=Hq fun _ _ _ _ _ _ _ q=>gt_int q
theorem Kw:mK X (eG .GtE) (Cy fun i j=>.bl (decide (j<=i))):=Hq fun _ _ _ _ _ _ _ q=>ge_int q
theorem DG:mK X (eG .In) (fun x y H Q=>∃i j,x=.str i/\y=.str j/\Q (.bl (!(vz j i 0 j.length 1).isEmpty)) H):=by
 intro g s σ H x y v u Q I e f h;obtain⟨i,j,rfl,rfl,q⟩:=h;obtain⟨t,rfl⟩:=e;obtain⟨k,rfl⟩:=f;exact in_str (bX I q rfl)
theorem FN(b:Expr){e:CmpOp}(h:e≠.In:=by decide)(f:e≠.NotIn:=by decide):kK e b=false:=by
 have g:(e==CmpOp.In)=false:=by cases e<;>first|rfl|exact absurd rfl h
 have i:(e==CmpOp.NotIn)=false:=by cases e<;>first|rfl|exact absurd rfl f
 cases b<;>simp[kK,g,i]
theorem CD{e:CmpOp}{r:R2}(f:mK X (eG e) r)(g:PE X a ta)(i:PE X b tb)(j:kK e b=false):PE X (.Compare a [e] [b] pos) (aI r ta tb):=by
 intro k s σ H Q I h;exact wpAny_Compare1 (JN g i I h fun v u l x y m n o p q=>f k l σ m x y v u Q n o p q) j
def bc(t:TE):TT:=fun σ H Q=>t σ H fun x H'=>∃k,x=.bl k/\Q k H'
theorem Cz{f:CmpOp}{r:R2}(i:mK X (eG f) r)(j:PE X a ta)(l:PE X b tb)(m:kK f b=false):PT X (.Compare a [f] [b] pos) (bc (aI r ta tb)):=by
 intro g s σ H Q I h;refine wpAny_isTrue_Compare1 (cA (j g s σ H _ I h) fun v n ⟨x,o,p,q,t⟩=>cA (l g n σ o _ p t) fun u w ⟨y,B,C,D,E⟩ =>
  cA (i g w σ B x y v u _ C q D E) fun c N ⟨z,G,J,L,k,e,M⟩=>?_) m
 subst e;cases L;exact nW ⟨G,J,M⟩
def EQ(r r':R2)(ta tb tc:TE):TE:=fun σ H Q=>ta σ H fun x H1=>tb σ H1 fun y H2=>r x y H2 fun z H3=>∃k,z=.bl k /\
 (if k=true then tc σ H3 fun w' H4=>r' y w' H4 Q else Q (.bl false) H3)
theorem FD{i f:CmpOp}{r l:R2}(q:mK X (eG i) r)(j:mK X (eG f) l)(t:PE X a ta)(w:PE X b tb)(B:PE X c tc)
  (C:lastMarks [i,f] [b,c]=false:=by with_unfolding_all rfl):PE X (.Compare a [i,f] [b,c] pos) (EQ r l ta tb tc):=by
 intro g s σ H Q I h;refine Compare_chain (cA (t g s σ H _ I h) fun v D ⟨x,E,G,J,L⟩=>chain_link (cA (w g D σ E _ G L) fun u M ⟨y,N,O,m,T⟩ =>
  cA (q g M σ N x y v u _ O J m T) fun d U ⟨z,n,o,Y,k,e,p⟩=>?_)) C
 subst e;cases Y;refine nW ?_;cases k with
 |false=>exact ite_ff ⟨.bl false,n,o,rfl,p⟩
 |true=>exact ite_tt (chain_last (cA (B g U σ n _ o p) fun w' s4 ⟨z',H4,I4,r4,q4⟩=>j g s4 σ H4 y z' u w' Q I4 m r4 q4))
theorem qq:(ao:Nat)<2 ^ 63:=by rw[vy];decide
theorem bL:mK X (nR .Add) (fun x y H Q=>∃i j,x=.str i/\y=.str j/\i.length+j.length<=ao/\Q (.str (i++j)) H):=by
 intro l s σ H x y v u Q I e f h;obtain⟨i,j,rfl,rfl,g,q⟩:=h;obtain⟨t,rfl⟩:=e;obtain⟨k,rfl⟩:=f;exact add_str (fun k tk=>⟨.str (i++j),H,I.tok _,⟨_,rfl⟩,q⟩) g
theorem vals1{x:V}{e:Zf}(r:bg [x] e):∃u,e=[u]/\RelV x u:=by
 cases r with
 |cons f g=>cases g;exact⟨_,rfl,f⟩
theorem vals2{x y:V}{e:Zf}(r:bg [x,y] e):∃u f,e=[u,f]/\RelV x u/\RelV y f:=by
 cases r with
 |cons g h =>
  cases h with
  |cons i j=>cases j;exact⟨_,_,rfl,g,i⟩
end
end L2
namespace L2
open PySem PySem.Spec PyProof.Rows
structure BJ(h:Heap)(x dx C:Addr)(mA:Str->Option Value):Prop where
 obj:h.get? x=some (rh C dx)
 ns:h.Ns1 dx mA
 ne:dx≠x
theorem qo{h:Heap}{g:Addr}{i:Str->Option Value}(n:h.Ns1 g i):∃j,h.get? g=some j/\∀name,BX name j=some (i name):=by
 obtain⟨o,k,v,l,m,p,_,r⟩:=n;refine⟨o,l,fun name=>?_⟩;have e:=r name;unfold nsFind findBy at e;rw[<-Array.find?_toList]at e;unfold BX;rw[m];dsimp only;split
 ·rename_i y q;rw[q]at e;exact congrArg some e
 ·rename_i q;rw[q]at e;have a:k.toList.any (·.refKey)=false:=by
   rw[List.any_eq_false];intro y s;obtain⟨z,t,f⟩:=p y (Array.mem_toList_iff.mp s);simp[DictEntry.refKey,f]
  have u:¬k.toList.any (·.refKey)=true:=by rw[a];exact jG
  rw[if_neg u];exact congrArg some e
theorem BJ.look{h:Heap}{x e C:Addr}{f:Str->Option Value}(I:BJ h x e C f):∃a,PySem.W.InstAt h x (rh C e) C (some a)/\∀name,BX name a=some (f name) :=
 let⟨a,g,i⟩:=qo I.ns
 ⟨a,⟨I.obj,rfl,rfl,g⟩,i⟩
section
variable{prog:bF}{w:World}{A:Around}{E:Zc}{s:Shared}{K:Za}{x dx C f:Addr}{mA:Str->Option Value}{name:Str}{v:Value}
theorem Hy{a:Bool}{Q:Zc}(X:K.In s.heap)(I:BJ s.heap x dx C mA)(g:yZ K C name=true)(i:BW K C=true)
  (j:cc K (.ref C) name=some none) (k:mA name=some v) (e:PySem.W.handedIn v=true) (h:Q v { s with toks:=s.toks+1 }) :
  wpAny (model prog w) A (yY (.ref x) name a) Q E s:=by
 obtain⟨m,J,l⟩:=I.look;exact PySem.W.get_value X J (PySem.W.plainGet_of g).1 (PySem.W.findObj_own i j rfl (by rw[l,k])) e h
theorem Gd{pl:Sem Bool}{Q:Value×List Value->Shared->Prop}(X:K.In s.heap)(I:BJ s.heap x dx C mA)(a:yZ K C name=true)
  (hf:cc K (.ref C) name=some (some (.ref f))) (e:nQ K (.ref f)=true) (g:mA name=none) (h:Q (.ref f,[.ref x]) s) :
  wpAny (model prog w) A (vx (.ref x) name pl) Q E s:=by
 obtain⟨i,J,j⟩:=I.look;exact PySem.W.method_fn X J (PySem.W.plainGet_of a).1 (PySem.W.plainGet_of a).2 hf (beq_iff_eq.mp e) (by show(BX name i).map (·.isSome)=some false;rw[j,g];rfl) h
theorem G4{n:Zb}{Q:Unit->Shared->Prop}(X:K.In s.heap)(I:BJ s.heap x dx C mA)
  (o:cc K (.ref C) "__setattr__"=some (some (.builtin "object.__setattr__"))) (p:PySem.W.plainOver K C=true) (q:PySem.W.takerIn K C name=some none) (t:BW K C=true)
  (u:y6 mA n) (z:n.length<=ao)
  (h:∀i,BJ i x dx C (fun y=>if y=name then some v else mA y)->jH dx s.heap i->Q () { s with heap:=i,toks:=s.toks+2 }) :
  wpAny (model prog w) A (setAttr (.ref x) name v) Q E s:=by
 obtain⟨H,J,L⟩:=I.look;refine PySem.W.set_plain X J o (PySem.W.osa_open (s:={ s with toks:=s.toks+1 }) (r:=none) X J p q fun b=>?_);obtain⟨cd,B,j⟩:=PySem.W.any_some t;have hx:s.heap.get? x=some ⟨.ref C,some dx,.plain,#[]⟩:=I.obj;refine ar (be (ar (ar (wpAny_loadPart hx (ar (PySem.W.Looks.here (s:={ s with toks:=s.toks+1 }) (PySem.W.looks_clsIn X B) ?_))))));rw[j];refine be (a:=some dx) (ar (be (ar ?_)));refine wpAny_nsSet1 (s:={ s with toks:=s.toks+1 }) I.ns fun i e g=>?_;obtain⟨M,D,G,k,l,m⟩:=e.count (y6.cons name v u);refine ar (wpAny_lookBehind k (by rw[l];exact pastItsLine_dict (aP m (by rw[bP];omega))) ?_);exact be (h _ ⟨(g.2 _ (cZ I.ne)).trans I.obj,e,I.ne⟩ g)
theorem FV{R:Result->Shared->Prop}{a:Zf}{e:List (Str×Value)}(X:K.In s.heap)(i:yX K C=true)
  (hi:cc K (.ref C) "__init__"=some (some (.ref f))) (hf:PySem.W.typeIn K (.ref f)=some (.type "function"))
  (h:zzl88 (model prog w) (A.under (.builtin "type.__call__" ⟨.ref C::a,e⟩)) (.call (.ref f) ⟨.ref (s.heap.objs.size+1)::a,e⟩) (PySem.W.InitBack (s.heap.objs.size+1) R)
   { s with heap:=(s.heap.push nO).push (rh C s.heap.objs.size) }) :
  zzl88 (model prog w) A (.call (.ref C) ⟨a,e⟩) R s:=by
 obtain⟨j,g,d,t,os⟩:=s;exact PySem.W.make_core (PySem.W.makes_of X i) (PySem.W.looks_findIn X hi) (fun self=>PySem.W.bind_fn X self hf) (.inl rfl) h
end
def c_(f:Str)(v:V):List (Str×V)->List (Str×V)
 |[]=>[(f,v)]
 | (g,x)::r=>if g=f then(g,v)::r else(g,x)::c_ f v r
theorem eO(f g:Str)(v:V):∀fs:List (Str×V),(c_ f v fs).lookup g=if g=f then some v else fs.lookup g
 |[]=>by
  show jd g [(f,v)]=_;by_cases h:g=f
  ·have a:(g==f)=true:=beq_iff_eq.mpr h;simp only[jd,a,if_pos h]
  ·have a:(g==f)=false:=beq_eq_false_iff_ne.mpr h;simp only[jd,a,if_neg h]
 | (k,x)::r=>by
  have j:=eO f g v r;rw[show c_ f v ((k,x)::r)=(if k=f then(k,v)::r else(k,x)::c_ f v r)from rfl]
  by_cases i:k=f
  ·rw[if_pos i];by_cases h:g=k
   ·have a:(g==k)=true:=beq_iff_eq.mpr h;simp only[jd,a,if_pos (h.trans i)]
   ·have a:(g==k)=false:=beq_eq_false_iff_ne.mpr h;simp only[jd,a,if_neg (fun e:g=f=>h (e.trans i.symm))]
  ·rw[if_neg i];by_cases h:g=k
   ·have a:(g==k)=true:=beq_iff_eq.mpr h;simp only[jd,a,if_neg (fun e:g=f=>i (h.symm.trans e))]
   ·have a:(g==k)=false:=beq_eq_false_iff_ne.mpr h;simp only[jd,a];exact j
theorem qv(f:Str)(v:V):∀fs:List (Str×V),f∈(c_ f v fs).map (·.1)/\∀g,g∈fs.map (·.1)->g∈(c_ f v fs).map (·.1)
 |[]=>⟨by simp[c_],fun g h=>by simp at h⟩
 | (k,x)::r=>by
  obtain⟨i,j⟩:=qv f v r;rw[show c_ f v ((k,x)::r)=(if k=f then(k,v)::r else(k,x)::c_ f v r)from rfl]
  by_cases a:k=f
  ·rw[if_pos a];subst a;exact⟨by simp,fun g h=>by simpa using h⟩
  ·rw[if_neg a];refine⟨?_,fun g h=>?_⟩
   ·rw[aS];exact bQ _ i
   ·rw[aS]at h ⊢;rcases bw.mp h with e|e
    ·exact bw.mpr (.inl e)
    ·exact bQ _ (j g e)
theorem rD(f:Str)(v:V):∀fs:List (Str×V),(c_ f v fs).length<=fs.length+1
 |[]=>by simp[c_]
 | (k,x)::r=>by
  have e:=rD f v r;rw[show c_ f v ((k,x)::r)=(if k=f then(k,v)::r else(k,x)::c_ f v r)from rfl]
  by_cases a:k=f
  ·rw[if_pos a,bP,bP];omega
  ·rw[if_neg a,bP,bP];omega
theorem iV.some_of{v:V}{o:Option Value}(r:iV (some v) o):∃u,o=some u/\RelV v u:=by
 cases o with
 |none=>exact(show False from r).elim
 |some u=>exact⟨u,rfl,r⟩
theorem iV.none_of{o:Option Value}(r:iV none o):o=none:=by
 cases o with
 |none=>rfl
 |some u=>exact(show False from r).elim
theorem v_{v:V}{u:Value}(r:RelV v u):PySem.W.handedIn u=true:=by
 cases v with
 |non=>cases(show u=Value.none from r);rfl
 |bl b=>cases(show u=Value.bool b from r);rfl
 |int i=>obtain⟨t,e⟩:=(show ∃t,u=Value.int i t from r);cases e;rfl
 |str x=>obtain⟨t,e⟩:=(show ∃t,u=Value.str x t from r);cases e;rfl
 |byt b=>obtain⟨t,e⟩:=(show ∃t,u=Value.bytes b t from r);cases e;rfl
 |flt b=>obtain⟨t,e⟩:=(show ∃t,u=Value.float b t from r);cases e;rfl
 |ref a=>cases(show u=Value.ref a from r);rfl
 |ty n=>cases(show u=Value.type n from r);rfl
section
variable{P:bF}{w:World}{H H':Hp}{h h':Heap}{a C dx:Addr}{fs fs':List (Str×V)}
theorem sJ{K:Za}(i:kO P w K H h)(e:H a=some (.ins C dx fs)):∃g,BJ h a dx C g/\(∀f,iV (fs.lookup f) (g f))/\y6 g (fs.map (·.1))/\fs.length<=1000/\H dx=some (.own a):=by
 obtain⟨d,z,ne,j,g,n,r,q⟩:=(show cN P w K H h a (.ins C dx fs)from i a _ e);exact⟨g,⟨j,n,ne⟩,r,q,z,d⟩
end
structure Eu(K:Za)(C:Addr):Prop where
 pg:yZ K C Str.empty=true
 hd:BW K C=true
 po:PySem.W.plainOver K C=true
 sa:cc K (.ref C) "__setattr__"=some (some (.builtin "object.__setattr__"))
theorem Eu.get{K:Za}{C:Addr}(c:Eu K C)(f:Str):yZ K C f=true:=c.pg
def db(K:Za)(C:Addr)(f:Str):Prop:=cc K (.ref C) f=some none
theorem db.taker{K:Za}{C:Addr}{f:Str}(n:db K C f):PySem.W.takerIn K C f=some none:=by
 unfold PySem.W.takerIn;rw[show cc K (.ref C) f=some none from n]
 rfl
structure JX(K:Za)(C:Addr)(m:Str)(f:Addr):Prop where
 at_:cc K (.ref C) m=some (some (.ref f))
 fn:nQ K (.ref f)=true
 kp:eF K (.ref f)=true
section
variable{X:Cx}{J6:Zd}{σ:St}{H:Hp}{s:Shared}{a C dx:Addr}{fs:List (Str×V)}{f:Str}{v:V}{A:Around}{E:Zc}
theorem Bv{b:Bool}{Q:Zc}(I:Inv X J6 σ H s)(e:H a=some (.ins C dx fs))(c:Eu X.K C)(n:db X.K C f)(l:fs.lookup f=some v)
  (h:∀u g,Inv X J6 σ H g->RelV v u->Q u g):wpAny (model X.prog X.w) A (yY (.ref a) f b) Q E s:=by
 obtain⟨j,O,r,_,_,_⟩:=sJ I.hok e;obtain⟨u,k,i⟩:=iV.some_of (v:=v) (o:=j f) (by rw[<-l];exact r f);exact Hy I.kIn O (c.get f) c.hd n k (v_ i) (h u _ (I.tok _) i)
theorem Bu{m:Str}{g:Addr}{pl:Sem Bool}{Q:Value×List Value->Shared->Prop}(I:Inv X J6 σ H s)(e:H a=some (.ins C dx fs))(c:Eu X.K C)(k:JX X.K C m g)(l:fs.lookup m=none)
  (h:Q (.ref g,[.ref a]) s):wpAny (model X.prog X.w) A (vx (.ref a) m pl) Q E s:=by
 obtain⟨i,O,r,_,_,_⟩:=sJ I.hok e;have j:i m=none:=iV.none_of (by rw[<-l];exact r m);exact Gd I.kIn O (c.get m) k.at_ k.fn j h
theorem AY{y:V}{u:Value}{Q:Unit->Shared->Prop}(I:Inv X J6 σ H s)(e:H a=some (.ins C dx fs))(c:Eu X.K C)(n:db X.K C f)(N:fs.length<1000)(p:RelV y u)
  (h:∀j,Inv X J6 σ (upd H a (.ins C dx (c_ f y fs))) j->Q () j):wpAny (model X.prog X.w) A (setAttr (.ref a) f u) Q E s:=by
 obtain⟨k,O,r,l,_,m⟩:=sJ I.hok e;have t:(fs.map (·.1)).length<=ao:=by rw[aq,vy];omega
 refine G4 I.kIn O c.sa c.po n.taker c.hd l t fun B i D=>h _ ?_;have G:∃o,B.get? dx=some o:=let⟨o,_,_,J,_⟩:=i.ns;⟨o,J⟩;refine I.write (x:=a) (e:=dx) (by rw[e];exact eU) (.inr m) (fun b q L z=>(D.2 b L).trans z) G ?_;refine⟨by rw[am O.ne];exact m,?_,O.ne,i.obj,_,i.ns,fun g=>?_,fun g M=>?_⟩
 ·have:=rD f y fs;omega
 ·show iV ((c_ f y fs).lookup g) (if g=f then some u else k g)
  rw[eO];by_cases q:g=f
  ·rw[if_pos q,if_pos q];exact p
  ·rw[if_neg q,if_neg q];exact r g
 ·by_cases q:g=f
  ·rw[q];exact(qv f y fs).1
  ·refine(qv f y fs).2 g (l g fun z=>M ?_);show(if g=f then some u else k g)=none
   rw[if_neg q];exact z
theorem Inv.made(I:Inv X J6 σ H s):Inv X J6 σ (upd (upd H s.heap.objs.size (.own (s.heap.objs.size+1))) (s.heap.objs.size+1) (.ins C s.heap.objs.size []))
  { s with heap:=(s.heap.push nO).push (rh C s.heap.objs.size) }:=by
 have g:(s.heap.push nO).get? s.heap.objs.size=some nO:=dJ s.heap rfl;have h:((s.heap.push nO).push (rh C s.heap.objs.size)).get? (s.heap.objs.size+1)=some (rh C s.heap.objs.size):=by
  have:=dJ (s.heap.push nO) (o:=rh C s.heap.objs.size) rfl;rwa[kP]at this
 have i:(s.heap.push nO).Ns s.heap.objs.size (fun _=>none):=⟨nO,#[],_,g,rfl,(fun e j=>absurd j (by simp)),fun _=>rfl⟩;have k:=I.laid (a:=s.heap.objs.size) (o:=.own (s.heap.objs.size+1)) (h':=s.heap.push nO) (t':=s.toks) (fun b u q=>bh _ q) (aG _) ⟨_,g⟩;refine k.laid (a:=s.heap.objs.size+1) (o:=.ins C s.heap.objs.size []) (t':=s.toks) (fun b u q=>bh _ q) (Nat.le_of_eq (kP _ _)) ?_;have ne:s.heap.objs.size≠s.heap.objs.size+1:=cw (Nat.lt_succ_self _);refine⟨by rw[am ne,aa],cf _,ne,h,fun _=>none,(Heap.Ns1.of_empty i).at fun o q=>bh _ q,fun _=>eU,fun y l=>absurd rfl l⟩
theorem C4{g:bF}{w:World}{i:Env}{e:Expr}{f:Str}{k:Pos}{s:Shared}{Q:Zc}(l:sO e f i (eval e i)=eval e i)
  (h:wpAny (model g w) A (eval e i) (fun o j=>wpAny (model g w) A (yY o f true) Q E j) E s):wpAny (model g w) A (eval (.Attribute e f k) i) Q E s :=
 Attribute_any_ h (by rw[arm_eval_Attribute,l])
end
def zh(K:Za)(ta:TE)(f:Str):TE:=fun σ H Q=>ta σ H fun x H1=>∃a C dx fs v,x=.ref a/\H1 a=some (.ins C dx fs)/\Eu K C/\db K C f/\fs.lookup f=some v/\Q v H1
def xH(K:Za)(ta tv:TE)(f:Str):TS:=fun D σ H=>tv σ H fun y H1=>ta σ H1 fun x H2=>∃a C dx fs,x=.ref a/\H2 a=some (.ins C dx fs)/\Eu K C/\db K C f/\fs.length<1000 /\
 D.nx σ (upd H2 a (.ins C dx (c_ f y fs)))
section
variable{X:Cx}{o e value:Expr}{f:Str}{pos pos' U1:Pos}{ta tv:TE}
theorem nj(i:PE X e ta)(j:sO e f X.env (eval e X.env)=eval e X.env):PE X (.Attribute e f pos) (zh X.K ta f):=by
 intro k s σ H Q I h;refine C4 j (cA (i k s σ H _ I h) fun u z g=>?_);obtain⟨x,m,p,r,a,C,B,fs,v,ex,t,c,n,l,q⟩:=g;subst ex;obtain rfl:u=Value.ref a:=r;exact Bv p t c n l fun D E w y=>⟨v,m,w,y,q⟩
theorem lB(j:PE X o ta)(k:PE X value tv)(m:mz value (some (.Attribute o f pos')) pos.line X.env=pure false):PS X (.Assign [.Attribute o f pos'] value pos) (xH X.K ta tv f):=by
 intro i s σ H D I h;refine plainObj_wpAny_Assign_Attribute (cA (k i s σ H _ I h) fun u p ⟨y,r,t,v,q⟩=>cA (j i p σ r _ t q) fun w L g=>?_) m;obtain⟨x,M,z,B,a,C,N,fs,ex,E,c,n,l,G⟩:=g;subst ex;obtain rfl:w=Value.ref a:=B;exact AY z E c n l v fun O J=>⟨σ,_,J,G⟩
end
section
variable{X:Cx}{J6:Zd}{σ:St}{H:Hp}{s:Shared}{A:Around}{E:Zc}{Q:Zc}{c:Value}{b:Bool}
inductive nD(K:Za)(H:Hp):V->Value->Prop where
 |non:nD K H .non (.type "NoneType")
 |bl (x:Bool):nD K H (.bl x) (.type "bool")
 |int (i:Int):nD K H (.int i) (.type "int")
 |str (x:Str):nD K H (.str x) (.type "str")
 |flt (x:UInt64):nD K H (.flt x) (.type "float")
 |lst {a:Addr}{xs:List V}(e:H a=some (.lst xs)):nD K H (.ref a) (.type "list")
 |frz {a:Addr}{o:Obj}{xs:List V}(e:H a=some (.frz o (.lst xs))):nD K H (.ref a) (.type "list")
 |tup {a:Addr}{xs:List V}(e:H a=some (.tup xs)):nD K H (.ref a) (.type "tuple")
 |dK {a:Addr}{kvs:List (eE×V)}(e:H a=some (.dK kvs)):nD K H (.ref a) (.type "dict")
 |dT {a:Addr}{kvs:List (TK×V)}(e:H a=some (.dT kvs)):nD K H (.ref a) (.type "dict")
 |ins {a C dx:Addr}{fs:List (Str×V)}(e:H a=some (.ins C dx fs)) (cl:Eu K C) (ha:cc K (.ref C) "__class__"=some (some (.builtin "object.__class__")))
   (hn:BV K (.builtin "object.__class__") "__get__"=some (some (.builtin "getset_descriptor.__get__"))) (htk:PySem.W.takesIn K (.builtin "object.__class__")=some true)
   (hm:PySem.W.mroIn K C (.type "object")=some true):nD K H (.ref a) (.ref C)
theorem DQ{x:V}{u t:Value}(I:Inv X J6 σ H s)(f:RelV x u)(ty:nD X.K H x t)(e:yW X.K t c=some b)(h:∀tk,Q (.bool b) { s with toks:=tk }):
  wpAny (model X.prog X.w) A (call (.builtin "isinstance") [u,c]) Q E s:=by
 cases ty with
 |non=>cases(show u=Value.none from f);exact jF PySem.W.kitx_none I.kIn eU e (fun z=>nomatch z) h
 |bl y=>cases(show u=Value.bool y from f);exact jF PySem.W.kitx_bool I.kIn eU e (fun z=>nomatch z) h
 |int i=>obtain⟨t,q⟩:=(show ∃t,u=Value.int i t from f);cases q;exact jF PySem.W.kitx_int I.kIn eU e (fun z=>nomatch z) h
 |str y=>obtain⟨t,q⟩:=(show ∃t,u=Value.str y t from f);cases q;exact jF PySem.W.kitx_str I.kIn eU e (fun z=>nomatch z) h
 |flt y=>obtain⟨t,q⟩:=(show ∃t,u=Value.float y t from f);cases q;exact jF PySem.W.kitx_float I.kIn eU e (fun z=>nomatch z) h
 |@lst a xs g =>
  cases(show u=Value.ref a from f);obtain⟨_,_,n,_,j⟩:=(show cN X.prog X.w X.K H s.heap a (.lst xs)from I.hok a _ g);exact jF PySem.W.kitx_list I.kIn ⟨_,j,rfl⟩ e (fun z=>nomatch z) h
 |@frz a v xs g =>
  cases(show u=Value.ref a from f);obtain⟨_,_,_,n,_,j⟩:=(show cN X.prog X.w X.K H s.heap a (.frz v (.lst xs))from I.hok a _ g);exact jF PySem.W.kitx_list I.kIn ⟨_,j,rfl⟩ e (fun z=>nomatch z) h
 |@tup a xs g =>
  cases(show u=Value.ref a from f);obtain⟨_,_,_,p⟩:=(show cN X.prog X.w X.K H s.heap a (.tup xs)from I.hok a _ g);obtain⟨o,j,l,_⟩:=p;exact jF PySem.W.kitx_tuple I.kIn ⟨o,j,l⟩ e (fun z=>nomatch z) h
 |@dK a k g =>
  cases(show u=Value.ref a from f);obtain⟨_,_,N,_,p⟩:=(show cN X.prog X.w X.K H s.heap a (.dK k)from I.hok a _ g);obtain⟨o,B,D,j,l,_⟩:=p;exact jF PySem.W.kitx_dict I.kIn ⟨o,j,l.1⟩ e (fun z=>nomatch z) h
 |@dT a k g =>
  cases(show u=Value.ref a from f);obtain⟨_,_,xs,_,o,B,D,j,l,_⟩:=(show cN X.prog X.w X.K H s.heap a (.dT k)from I.hok a _ g);exact jF PySem.W.kitx_dict I.kIn ⟨o,j,l.1⟩ e (fun z=>nomatch z) h
 |@ins a C T fs g r G L m M =>
  cases(show u=Value.ref a from f);obtain⟨U,O,_⟩:=sJ I.hok g;obtain⟨Y,J,_⟩:=O.look;exact jF (PySem.W.kitx_own (r.get _) r.hd G L m M) I.kIn J e (fun z=>nomatch z) h
end
end L2
namespace L2
open PySem PySem.Spec PyProof.Rows
structure dQ(k:Nat)(A:Around):Prop where
 hd:A.handled=none
 dp:A.depth+3 * k+5<recursionLimit
 un:A.units+16 * k+200<cLine
theorem dQ.mono{j k:Nat}{A:Around}(r:dQ k A)(h:j<=k):dQ j A:=⟨r.hd,by have:=r.dp;omega,by have:=r.un;omega⟩
theorem dQ.deeper{k:Nat}{A:Around}(r:dQ (k+1) A)(a:Env):dQ k (A.deeper a) :=
 ⟨r.hd,by have:=r.dp;show A.depth+1+3 * k+5<_;omega,by have:=r.un;show A.units+3+16 * k+200<_;omega⟩
theorem Bj{A:Around}{C:Addr}{a:Zf}{e:List (Str×Value)}:(A.under (.builtin "type.__call__" ⟨.ref C::a,e⟩)).depth=A.depth+1:=by
 first|rfl|simp[Around.under,Code.weight,Code.isCreation,Code.isGuard,Code.isCaller,Code.frames,Code.isFrame,guardIds]
theorem Bi{A:Around}{C:Addr}{a:Zf}{e:List (Str×Value)}:(A.under (.builtin "type.__call__" ⟨.ref C::a,e⟩)).units=A.units+1:=by
 first|rfl|simp[Around.under,Code.cUnits,Code.frames,Code.isFrame]
theorem dQ.make{k:Nat}{A:Around}(r:dQ (k+1) A)(C:Addr)(a:Zf)(e:List (Str×Value)):dQ k (A.under (.builtin "type.__call__" ⟨.ref C::a,e⟩)) :=
 ⟨r.hd,by have:=r.dp;rw[Bj];omega,by have:=r.un;rw[Bi];omega⟩
theorem dQ.depth{k:Nat}{A:Around}(r:dQ k A):A.depth<recursionLimit:=by have:=r.dp;omega
theorem dQ.units{k:Nat}{A:Around}(r:dQ k A):A.units+64<cLine:=by have:=r.un;omega
def bS:TA:=fun _ H Q=>Q [] H
def ay(ta:TE)(tr:TA):TA:=fun σ H Q=>ta σ H fun x H1=>tr σ H1 fun xs H2=>Q (x::xs) H2
abbrev aF(a:TE):TA:=ay a bS
abbrev ba(a b:TE):TA:=ay a (ay b bS)
abbrev fu(a b c:TE):TA:=ay a (ay b (ay c bS))
section
variable{X:Cx}{e:Expr}{es:List Expr}{te:TE}{t:TA}{pos:Pos}
theorem eN:PA X [] bS:=fun _ _ _ _ H Q I h=>Calls.spliced_nil ⟨[],H,I,.nil,h⟩
theorem cj(g:PE X e te)(i:PA X es t)(j:aB (e::es) X.env=(false,eval e X.env)::aB es X.env:=by rfl):PA X (e::es) (ay te t):=by
 intro pos f s σ H Q I h;rw[j];show wpAny _ _ (vC ((false,eval e X.env)::backTo pos (aB es X.env))) _ _ s;refine lh (cA (g f s σ H _ I h) fun u k a=>?_);obtain⟨x,l,m,n,o⟩:=a;exact cA (i pos f k σ l _ m o) fun w y ⟨xs,p,q,r,v⟩=>⟨x::xs,p,q,.cons n r,v⟩
def d7(t:TA):TE:=fun σ H Q=>t σ H fun xs H1=>xs.length<=ao/\∀p,H1 p=none->Q (.ref p) (upd H1 p (.tup xs))
def eJ(t:TA):TE:=fun σ H Q=>t σ H fun xs H1=>xs.length<=ao/\∀p,H1 p=none->Q (.ref p) (upd H1 p (.lst xs))
theorem bH{i}(h:PA X es t):PE X (.Tuple es i pos) (d7 t):=by
 intro j s σ H Q I k;refine wpAny_Tuple_spliced (cA (h pos j s σ H _ I k) fun l a ⟨xs,f,g,r,z,q⟩=>⟨by rw[<-r.length];exact z,?_⟩);have hf:f a.heap.objs.size=none:=g.hok.fresh (aG _);refine⟨.ref a.heap.objs.size,upd f a.heap.objs.size (.tup xs),g.laid (t':=a.toks) (fun b u e=>bh _ e) (aG _) ?_,rfl,q _ hf⟩;exact⟨z,l,r,⟨_,dJ _ rfl,rfl,_,rfl⟩⟩
theorem bT(h:PA X es t):PE X (.List es pos) (eJ t):=by
 intro i s σ H Q I j;refine wpAny_List_spliced (cA (h pos i s σ H _ I j) fun k a ⟨xs,f,g,r,z,q⟩=>⟨by rw[<-r.length];exact z,?_⟩);have hf:f a.heap.objs.size=none:=g.hok.fresh (aG _);refine⟨.ref a.heap.objs.size,upd f a.heap.objs.size (.lst xs),g.laid (t':=a.toks) (fun b u e=>bh _ e) (aG _) ?_,rfl,q _ hf⟩;exact⟨z,k,0,r,dJ _ rfl⟩
end
abbrev Sp:=List V->Hp->VK->XK->Prop
abbrev En:=List Env->Hp->Shared->XK->Value->Shared->Prop
structure BR(P:bF)(w:World)(K:Za)(mg:Str->Option Value)(base:Heap)(A:Around)(outer:List Env)(s:Shared)(H:Hp):Prop where
 frames:A.frames=some outer
 mod:Mod K mg base
 bs:∀b o,base.get? b=some o->s.heap.get? b=some o/\H b=none
 bsz:base.objs.size<=s.heap.objs.size
 funs:s.heap.FunFrames base outer
 frf:∀b∈mI outer,H b=none
 hok:kO P w K H s.heap
 bare:mB s.gens
def CE(outer:List Env)(P:bF)(w:World)(K:Za)(H:Hp)(s:Shared)(Q:VK)(u:Value)(s':Shared):Prop :=
 ∃v H',s'.os=s.os/\mB s'.gens/\Un (mI outer) [] H H' s.heap s'.heap/\kO P w K H' s'.heap/\RelV v u/\Q v H'
def CR(CX:En)(outer:List Env)(P:bF)(w:World)(K:Za)(H:Hp)(s:Shared)(Q:VK)(E:XK)(r:Result)(s':Shared):Prop :=
 match r with
 |.ok (.ret u)=>CE outer P w K H s Q u s'
 |.ok _=>False
 |.error e=>CX outer H s E e s'
structure iX(P:bF)(w:World)(K:Za)(mg:Str->Option Value)(base:Heap)(CX:En)(k:Nat)(f:Addr)(fd:fe)(ps:Zb)(sp:Sp):Prop where
 len:∀vs H Q E,sp vs H Q E->vs.length=ps.length
 run:∀(A:Around) (outer:List Env) (s:Shared) (H:Hp) (args:Args) (us:Zf) (vs:List V) (Q:VK) (E:XK),dQ k A->BR P w K mg base A outer s H->mZ s fd args (ps.zip us)->bg vs us->sp vs H Q E ->
  zzl88 (model P w) A (.call (.ref f) args) (CR CX outer P w K H s Q E) s
theorem BR.make{P:bF}{w:World}{K:Za}{a:Str->Option Value}{base:Heap}{A:Around}{outer:List Env}{s:Shared}{H:Hp}(e:BR P w K a base A outer s H)(C:Addr)(f:Zf)(g:List (Str×Value)):
  BR P w K a base (A.under (.builtin "type.__call__" ⟨.ref C::f,g⟩)) outer s H:=⟨by first|exact e.frames|(simpa[Around.under,Code.envs,Code.isFrame,pushEnvs]using e.frames),e.mod,e.bs,e.bsz,e.funs,e.frf,e.hok,e.bare⟩
section
variable{X:Cx}{J6:Zd}{σ:St}{H:Hp}{s s':Shared}
theorem Inv.env0(I:Inv X J6 σ H s):BR X.prog X.w X.K X.mg X.base X.A X.stack s H :=
 ⟨I.ok.frames,I.ok.mod,I.bs,aP I.ok.bsz I.sz,I.stack,I.stkFree,I.hok,I.bare⟩
theorem Inv.after{Q:VK}{u:Value}(I:Inv X J6 σ H s)(h:CE X.stack X.prog X.w X.K H s Q u s'):EP X J6 σ Q u s':=by
 obtain⟨v,i,os,a,un,e,r,q⟩:=h;obtain⟨j,g,d,t,f⟩:=s';obtain rfl:f=s.os:=os;exact⟨v,i,I.call (h':=j) (g':=g) (d':=d) (t':=t) (ch:=[]) un e a (fun b z=>absurd z (by simp)),r,q⟩
end
def rm(sp:Sp)(dvs:List V)(E:XK)(t:TA):TE:=fun σ H Q=>t σ H fun vs H1=>sp (vs++dvs) H1 Q E
def tM(C:Addr)(m:Str)(sp:Sp)(dvs:List V)(E:XK)(ta:TE)(t:TA):TE:=fun σ H Q=>ta σ H fun x H1=>∃a dx fs,x=.ref a/\H1 a=some (.ins C dx fs)/\fs.lookup m=none /\
 t σ H1 fun vs H2=>sp (x::(vs++dvs)) H2 Q E
def EK(C:Addr)(sp:Sp)(dvs:List V)(E:XK)(t:TA):TE:=fun σ H Q=>t σ H fun vs H1=>∀x dx,H1 x=none->H1 dx=none->dx≠x ->
 sp (.ref x::(vs++dvs)) (upd (upd H1 dx (.own x)) x (.ins C dx [])) (fun v H2=>v=.non/\Q (.ref x) H2) E
def Binds(K:Za)(fd:fe)(ps:Zb)(ds:Zf):Prop :=
 ∀(s:Shared) (us:Zf),K.In s.heap->(us++ds).length=ps.length->mZ s fd ⟨us,[]⟩ (ps.zip (us++ds))
theorem Binds.all{K:Za}{f:fe}{e:Zb}(h:∀a:List Value,a.length=e.length->bindArgs f ⟨a,[]⟩=pure (e.zip a)):Binds K f e []:=fun s a _ g=>by
 rw[dA]at g ⊢;exact .of_eq (h a g)
def qI(CX:En)(X:Cx)(E:XK):Prop:=∀(J6:Zd) (σ:St) (H:Hp) (s:Shared) (e:Value) (s':Shared),Inv X J6 σ H s->CX X.stack H s E e s'->X.xe e s'
section
variable{X:Cx}{CX:En}{k:Nat}{f C:Addr}{fd:fe}{ps:Zb}{sp:Sp}{dvs:List V}{ds:Zf}{E:XK}{x m:Str}{p pos J8:Pos}{e o:Expr}{es:List Expr}{ta:TE}{t:TA}
theorem AZ{g:Zd}{σ:St}{H:Hp}{s:Shared}{Q:VK}{us:Zf}{vs:List V}(F:iX X.prog X.w X.K X.mg X.base CX k f fd ps sp)(j:dQ k X.A)(l:Binds X.K fd ps ds)(n:bg dvs ds)(hx:qI CX X E)
  (I:Inv X g σ H s) (r:bg vs us) (h:sp (vs++dvs) H Q E):wpAny (model X.prog X.w) X.A (call (.ref f) us) (EP X g σ Q) X.xe s:=by
 have i:bg (vs++dvs) (us++ds):=r.append n;have q:(us++ds).length=ps.length:=by rw[<-i.length];exact F.len _ _ _ _ h
 refine mY (pN (F.run X.A X.stack s H ⟨us,[]⟩ (us++ds) (vs++dvs) Q E j I.env0 (l s us I.kIn q) i h) fun r v a=>?_);cases r with
 |error e=>exact hx g σ H s e v I a
 |ok y =>
  cases y with
  |ret u=>exact I.after a
  |next=>exact df a
  |brk=>exact df a
  |cont=>exact df a
theorem CF(F:iX X.prog X.w X.K X.mg X.base CX k f fd ps sp)(j:dQ k X.A)(l:Gl X x)(n:X.mg x=some (.ref f))(u:eF X.K (.ref f)=true)(v:Binds X.K fd ps ds)(y:bg dvs ds)(hx:qI CX X E)
  (z:PA X (e::es) t) (a:(x==("__debug__":Str))=false:=by decide) (B:aB (e::es) X.env=(false,eval e X.env)::aB es X.env:=by rfl) (g:(backTo pos (aB es X.env)).any (·.1)=false:=by rfl) :
  PE X (.Call (.Name x p) (e::es) [] pos) (rm sp dvs E t):=by
 intro D s σ H Q I h;refine lg (ik I l n ?_ a);refine tz (h₀:=X.base) I.ok.mod.kin u (cA (z pos D s σ H _ I h) fun G J ⟨L,M,i,r,q⟩=>⟨i.kIn,?_⟩) B g;exact AZ F j v y hx i r q
theorem FE(F:iX X.prog X.w X.K X.mg X.base CX k f fd ps sp)(g:dQ k X.A)(i:Gl X x)(j:X.mg x=some (.ref f))(l:eF X.K (.ref f)=true)(n:Binds X.K fd ps ds)(q:bg dvs ds)(hx:qI CX X E)
  (a:(x==("__debug__":Str))=false:=by decide):PE X (.Call (.Name x p) [] [] pos) (rm sp dvs E bS):=by
 intro r s σ H Q I h;refine lg (ik I i j ?_ a);exact PySem.W.callWith_K0 I.kIn l (AZ (us:=[]) F g n q hx I .nil h)
theorem Fz{pl:Sem Bool}(r:PE X o ta)(c:Eu X.K C)(j:JX X.K C m f)(F:iX X.prog X.w X.K X.mg X.base CX k f fd ps sp)(v:dQ k X.A)(y:Binds X.K fd ps ds)(z:bg dvs ds)(hx:qI CX X E)
  (B:eval (.Call (.Attribute o m J8) [] [] pos) X.env=(do
   let n <- eval o X.env
   vB J8.atName
   let(f,first) <- nS [n] (vx n m pl)
   wY pos f first (backTo pos (aB [] X.env)) (mW pos (mV [] X.env))):=by rfl) :
  PE X (.Call (.Attribute o m J8) [] [] pos) (tM C m sp dvs E ta bS):=by
 intro D s σ H Q I h;refine PySem.W.methodCall_KW (pl:=pl) (cA (r D s σ H _ I h) fun u L g=>?_) B;obtain⟨x,M,i,G,a,N,fs,ex,J,l,q⟩:=g;subst ex;obtain rfl:u=Value.ref a:=G;refine Bu i J c j l ?_;exact PySem.W.callWith_K0 (first:=[.ref a]) i.kIn j.kp (AZ (us:=[.ref a]) (vs:=[.ref a]) F v y z hx i (.cons rfl .nil) q)
structure Mk(K:Za)(C f:Addr):Prop where
 makes:yX K C=true
 init:cc K (.ref C) "__init__"=some (some (.ref f))
 fn:nQ K (.ref f)=true
 kp:eF K (.ref C)=true
end
structure gK(N P:Zb)(sc:Scope):Prop where
 kind:sc.kind=.function
 co:sc.isCoroutine=false
 gen:sc.isGenerator=false
 nd:N.Nodup
 pre:N.take P.length=P
 par:∀x∈P,sc.names.lookup x=some .local∨sc.names.lookup x=some .cell
 nofree:∀y∈sc.names,y.2≠.free
theorem wj{kindOf:Str->Option gm}{x:Str}:∀{binds:List (Str×Value)}{m:Str->Option Value},(∀v,(x,v)∉binds)->bindL kindOf binds m x=m x
 |[],_,_=>rfl
 | (n,v)::r,m,h=>by
  unfold bindL;rw[wj fun w a=>h w (bQ _ a)];split
  ·have:x≠n:=by rintro rfl;exact h v bR
   simp[this]
  ·rfl
theorem wn{kindOf:Str->Option gm}{x:Str}:∀{binds:List (Str×Value)}{m:Str->Option Value},(∀v,(x,v)∉binds)->bindC kindOf binds m x=m x
 |[],_,_=>rfl
 | (n,v)::r,m,h=>by
  unfold bindC;rw[wn fun w a=>h w (bQ _ a)];split
  ·rfl
  ·have:x≠n:=by rintro rfl;exact h v bR
   simp[this]
theorem wm{kindOf:Str->Option gm}{x:Str}{v:Value}:∀{P:Zb}{a:Zf}{i:Nat}{m:Str->Option Value},P.Nodup->P[i]?=some x->a[i]?=some v->kindOf x=some .local ->
  bindL kindOf (P.zip a) m x=some v
 |[],_,_,_,_,h,_,_=>by simp at h
 |_::_,[],_,_,_,_,h,_=>by simp at h
 |p::P,w::a,0,m,g,e,f,j=>by
  simp at e f;subst e;subst f;show bindL kindOf ((p,w)::P.zip a) m p=_;unfold bindL;rw[wj fun v k=>(jw.mp g).1 (tw k).1,if_pos j];simp
 |p::P,w::a,i+1,m,g,e,f,j=>by
  show bindL kindOf ((p,w)::P.zip a) m x=_;unfold bindL;exact wm (i:=i) (jw.mp g).2 (by simpa using e) (by simpa using f) j
theorem wo{kindOf:Str->Option gm}{x:Str}{v:Value}:∀{P:Zb}{a:Zf}{i:Nat}{m:Str->Option Value},P.Nodup->P[i]?=some x->a[i]?=some v->kindOf x≠some .local ->
  bindC kindOf (P.zip a) m x=some v
 |[],_,_,_,_,h,_,_=>by simp at h
 |_::_,[],_,_,_,_,h,_=>by simp at h
 |p::P,w::a,0,m,g,e,f,j=>by
  simp at e f;subst e;subst f;show bindC kindOf ((p,w)::P.zip a) m p=_;unfold bindC;rw[wn fun v k=>(jw.mp g).1 (tw k).1,if_neg j];simp
 |p::P,w::a,i+1,m,g,e,f,j=>by
  show bindC kindOf ((p,w)::P.zip a) m x=_;unfold bindC;exact wo (i:=i) (jw.mp g).2 (by simpa using e) (by simpa using f) j
def start(N:Zb)(vs:List V):St:=vs.map some++lf (N.length-vs.length) none
def uD(CX:En)(P:bF)(w:World)(K:Za)(mg:Str->Option Value)(base:Heap)(N:Zb)(qual:Str)(scope:Scope)(f:Addr)(cd:Value)(A:Around)(outer:List Env)(s:Shared)(H:Hp)(E:XK):Cx where
 prog:=P
 w:=w
 K:=K
 mg:=mg
 base:=base
 A:=A.deeper (envOfC qual scope s.heap.objs.size f cd)
 N:=N
 s₀:=s
 H₀:=H
 env:=envOfC qual scope s.heap.objs.size f cd
 outer:=outer
 stack:=envOfC qual scope s.heap.objs.size f cd::outer
 ex:=[]
 calm:=true
 fn:=fun _=>true
 pn:=[]
 xe:=fun e s'=>wpAny (model P w) (A.deeper (envOfC qual scope s.heap.objs.size f cd)) (leaving (envOfC qual scope s.heap.objs.size f cd) e) (fun _ s''=>CX outer H s E e s'') (fun e' s''=>CX outer H s E e' s'') s'
theorem Ac{a:Scope}{n:Nat}{x:Str}(h:a.names.lookup x=some .cell):∃c,(cellsFrom n a.names []).lookup x=some c:=by
 have q:=PySem.W.cellsFrom_some a.names n [] (.inl h);exact wX.mp q
theorem DU{J:En}{P:bF}{w:World}{K:Za}{G:Str->Option Value}{base:Heap}{N m:Zb}{g:Str}{scope:Scope}{f:Addr}{cd:Value}{A:Around}{outer:List Env}{s L:Shared}{H:Hp}{E:XK}{I:Zf}{o:List V}
  (S:gK N m scope) (Q:A.handled=none) (l:BR P w K G base A outer s H) (hl:o.length=m.length) (r:bg o I)
  (x:InCallC s s.heap.objs.size (bindL (envOfC g scope s.heap.objs.size f cd).kindOf (m.zip I) fun _=>none) (cellsFrom (s.heap.objs.size+1) scope.names []) (bindC (envOfC g scope s.heap.objs.size f cd).kindOf (m.zip I) fun _=>none) L) :
  Inv (uD J P w K G base N g scope f cd A outer s H E) [] (start N o) H L:=by
 have T:m.length<=N.length:=by have:=congrArg List.length S.pre;rw[aL]at this;omega
 obtain⟨D,tk,rfl,M⟩:=x.done;have t:∀b:Addr,b∉(uD J P w K G base N g scope f cd A outer s H E).ex:=fun b z=>absurd (show b∈([]:Ze)from z) (by simp);refine⟨⟨l.mod,S.kind,rfl,rfl,aG _,fun y z c D j=>?_,fun y hy=>?_,fun y c _ h=>?_,fun _=>Q,Around.frames_deeper l.frames,.inr ⟨rfl,rfl⟩,fun b z=>absurd z (t b),l.bs,l.bsz,fun b _ _=>t b,fun b z=>absurd z (t b),l.funs,l.frf⟩,
  rfl,l.bare,Un.kept M,⟨_,x.toInCall.ns,fun i y v D j h3=>?_⟩,fun y c h=>⟨_,x.cell y c h⟩,l.hok.fresh (aG _),fun y c h=>?_,fun p B=>absurd (show p∈([]:Zd)from B) (by simp),l.hok.kept M,?_⟩
 ·exact name_of_addr x.apart (pM D) (pM j)
 ·have hy:scope.names.lookup y=some .cell∨scope.names.lookup y=some .free:=hy;rcases hy with hy|hy
  ·exact Ac hy
  ·exact absurd rfl (S.nofree _ (pM hy))
 ·exact c6 (x.above y c (pM h))
 ·have hi:i<o.length:=by
   unfold start at j;by_cases hi:i<o.length
   ·exact hi
   ·rw[pL (by simpa using hi)]at j;rw[List.getElem?_replicate]at j;split at j<;>cases j
  have U:o[i]?=some v:=by
   unfold start at j;rw[k_ (by simpa using hi),bD]at j;cases e:o[i]? with
   |none=>rw[e]at j;cases j
   |some a=>rw[e]at j;cases j;rfl
  obtain⟨u,O,Y⟩:=r.get U;have B:m[i]?=some y:=by
   rw[<-S.pre,List.getElem?_take_of_lt (by omega)];exact D
  have C:m.Nodup:=by rw[<-S.pre];exact S.nd.sublist (List.take_sublist _ _)
  refine⟨u,Y,?_⟩;rcases S.par y (ca B)with k|k
  ·exact .inl ⟨k,wm C B O k⟩
  ·obtain⟨c,e⟩:=Ac (n:=s.heap.objs.size+1) k;refine .inr ⟨.inl k,c,e,?_⟩;have q:=x.cell y c e;rw[wo C B O (by show scope.names.lookup y≠_;rw[k];decide)]at q;exact q
 ·exact l.hok.fresh (c6 (x.above y c (pM h)))
 ·unfold start;show _=N.length;rw[aV,aq,wW];omega
theorem Ix{C:En}{P:bF}{w:World}{K:Za}{D:Str->Option Value}{base:Heap}{k:Nat}{f:Addr}{name a:Str}{params:Arguments}{body:List Stmt}{scope:Scope}{dV kV doc pm g ct oc:Value}{an od:Option Addr}
  {G:Array (Option Value)}{N ps:Zb}{L:Sp}(lk:K.lookup f=some ⟨oc,od,.func (iG name a params body scope dV kV doc pm an g ct),G⟩) (M:mU K g a=true) (S:gK N ps scope)
  (len:∀h H Q E,L h H Q E->h.length=ps.length)
  (i:∀(A:Around) (outer:List Env) (s:Shared) (H:Hp) (h:List V) (Q:VK) (E:XK),dQ k (A.deeper (envOfC a scope s.heap.objs.size f g))->L h H Q E ->
   ∃t,yJ (uD C P w K D base N a scope f g A outer s H E) body t/\t (bJ Q) (start N h) H) :
  iX P w K D base C (k+1) f (iG name a params body scope dV kV doc pm an g ct) ps L:=by
 refine⟨len,fun A outer s H args us h Q E O p hb r z=>?_⟩;have hl:=len _ _ _ _ z;have KX:K.In s.heap:=p.mod.kin.keeps fun b o e=>(p.bs b o e).1;have T:s.heap.NoLimit:=p.mod.nolimit.keeps fun b o e=>(p.bs b o e).1;have j:∀y∈ps.zip us,scope.names.lookup y.1=some .local∨(scope.names.lookup y.1=some .cell/\((cellsFrom (s.heap.objs.size+1) scope.names []).lookup y.1).isSome=true):=fun⟨n,v⟩ hy=>by
  rcases S.par n (tw hy).1 with q|q
  ·exact .inl q
  ·exact .inr ⟨q,PySem.W.cellsFrom_some _ _ _ (.inl q)⟩
 refine codeAny_call_function O.depth (KX _ _ lk) rfl S.co S.gen rfl (PySem.W.codeRec_of KX M) (hb _ _ _ _ ?_);refine wpAny_newFunctionEnv_cells S.kind j fun ab he s1 x=>?_;subst he;refine⟨T.keeps x.toInCall.keep,codeAny_func ?_⟩;obtain⟨t,ht,hq⟩:=i A outer s H h Q E (O.deeper _) z;have I:Inv (uD C P w K D base N a scope f g A outer s H E) [] (start N h) H s1:=DU S O.hd p hl r x;refine dF (ht [] s1 (start N h) H _ I hq) (fun fl U l=>?_) fun e U l=>l;have B:∀{σ':St}{m:Hp}{v:V}{u:Value},Inv (uD C P w K D base N a scope f g A outer s H E) [] σ' m U->RelV v u->Q v m->CE outer P w K H s Q u U :=
  fun{σ' m v u} J Y q=>⟨v,m,J.os,J.bare,J.base,J.hok,Y,q⟩
 cases fl with
 |ret u =>
  obtain⟨v,σ',m,J,Y,q⟩:=l;exact B J Y q
 |next =>
  obtain⟨σ',m,J,q⟩:=l;exact B (v:=V.non) (u:=Value.none) J rfl q
 |brk =>
  obtain⟨_,_,_,q⟩:=l;exact df q
 |cont =>
  obtain⟨_,_,_,q⟩:=l;exact df q
end L2
namespace L2
open PySem PySem.Spec PyProof.Rows
section
variable{X:Cx}{x:Str}{p pos:Pos}{e:Expr}{es:List Expr}{t:TA}{id T:String}{r:List V->Hp->VK->Prop}
def du(r:List V->Hp->VK->Prop)(t:TA):TE:=fun σ H Q=>t σ H fun vs H1=>r vs H1 Q
theorem zJ(i:g7 X (.builtin id) r)(j:Gl X x)(k:X.mg x=none)(l:je x=some (.builtin id))(m:PA X (e::es) t)(n:x≠"__name__":=by decide)(a:(x==("__debug__":Str))=false:=by decide)
  (o:aB (e::es) X.env=(false,eval e X.env)::aB es X.env:=by rfl) (f:(backTo pos (aB es X.env)).any (·.1)=false:=by rfl):PE X (.Call (.Name x p) (e::es) [] pos) (du r t):=by
 intro g s σ H Q I h;refine lg (qt I j k l ?_ n a);exact PyProof.Rows.callWith_builtin1 (cA (m pos g s σ H _ I h) fun q u ⟨v,w,y,z,B⟩=>i g u σ w v q Q y z B) o f
theorem l5(i:g7 X (.type T) r)(j:Gl X x)(k:X.mg x=none)(l:je x=some (.type T))(m:PA X (e::es) t)(n:x≠"__name__":=by decide)(a:(x==("__debug__":Str))=false:=by decide)
  (o:aB (e::es) X.env=(false,eval e X.env)::aB es X.env:=by rfl) (f:(backTo pos (aB es X.env)).any (·.1)=false:=by rfl):PE X (.Call (.Name x p) (e::es) [] pos) (du r t):=by
 intro g s σ H Q I h;refine lg (qt I j k l ?_ n a);exact BY (cA (m pos g s σ H _ I h) fun q u ⟨v,w,y,z,B⟩=>i g u σ w v q Q y z B) o f
end
end L2
namespace HT
open PySem PyProof.Rows
section
variable{prog:bF}{w:World}{A:Around}{E:Zc}{s:Shared}
def sIx(n d:Nat):Option Int->Nat
 |none=>d
 |some v=>if v<0 then(v+(n:Int)).toNat else min v.toNat n
theorem sIx_none(n d:Nat):sIx n d none=d:=rfl
theorem sIx_nat(n d k:Nat):sIx n d (some (k:Int))=min k n:=by
 show(if(k:Int)<0 then((k:Int)+(n:Int)).toNat else min (k:Int).toNat n)=min k n
 rw[if_neg (by omega),mT]
theorem sIx_le(n d:Nat)(e:d<=n)(o:Option Int):sIx n d o<=n:=by
 cases o with
 |none=>exact e
 |some v =>
  show(if v<0 then(v+(n:Int)).toNat else min v.toNat n)<=n
  by_cases a:v<0
  ·rw[if_pos a];omega
  ·rw[if_neg a];exact Nat.min_le_right _ _
theorem clip_eq(v:Int)(n d:Nat):(if v<0 then max (v+(n:Int)) 0 else min v (n:Int))=((sIx n d (some v):Nat):Int):=by
 show(if v<0 then max (v+(n:Int)) 0 else min v (n:Int))=(((if v<0 then(v+(n:Int)).toNat else min v.toNat n):Nat):Int)
 by_cases a:v<0
 ·simp only[if_pos a];omega
 ·simp only[if_neg a];omega
end
end HT
namespace L2
open PySem PySem.Spec PyProof.Rows
abbrev TO:=St->Hp->(Option Int->Hp->Prop)->Prop
def PO(X:Cx)(e:Option Expr)(t:TO):Prop :=
 ∀(J6:Zd) (s:Shared) (σ:St) (H:Hp) (Q:Option Int->Hp->Prop),Inv X J6 σ H s->t σ H Q ->
  wpAny (model X.prog X.w) X.A (evalPart e X.env) (fun u s'=>∃o H',Inv X J6 σ H' s'/\IsPart u o/\Q o H') X.xe s
def bM:TO:=fun _ H Q=>Q none H
def cE(t:TE):TO:=fun σ H Q=>t σ H fun x H1=>∃i,x=.int i/\Q (some i) H1
section
variable{X:Cx}{e:Expr}{te:TE}{lo hi:Option Expr}{tl th:TO}{pos p2:Pos}
theorem cg:PO X none bM:=by
 intro a s σ H Q I h;rw[evalPart_none];exact be ⟨none,H,I,.none,h⟩
theorem bq(h:PE X e te):PO X (some e) (cE te):=by
 intro f s σ H Q I g;rw[evalPart_some];refine cA (h f s σ H _ I g) fun u n a=>?_;obtain⟨x,j,k,l,m⟩:=a;obtain⟨i,rfl,q⟩:=m;obtain⟨t,rfl⟩:=l;exact⟨some i,j,k,.int i t,q⟩
def SlR(X:Cx)(r:V->Option Int->Option Int->Hp->VK->Prop):Prop :=
 ∀(J6:Zd) (s:Shared) (σ:St) (H:Hp) (x:V) (v vl vu:Value) (lo hi:Option Int) (sl:Addr) (Q:VK),Inv X J6 σ H s->RelV x v->s.heap.IsSliceOf sl vl vu .none->IsPart vl lo->IsPart vu hi->r x lo hi H Q ->
  ∃T id,pK (.type T) "__getitem__"=pure (some (.builtin id))/\s.TypeIs v T/\wpAny (model X.prog X.w) X.A (mS v (.ref sl)) (EP X J6 σ Q) X.xe s
def nN(r:V->Option Int->Option Int->Hp->VK->Prop)(te:TE)(tl th:TO):TE:=fun σ H Q=>te σ H fun x H1=>tl σ H1 fun l H2=>th σ H2 fun u H3=>r x l u H3 Q
theorem bj{r:V->Option Int->Option Int->Hp->VK->Prop}(m:SlR X r)(n:PE X e te)(o:PO X lo tl)(p:PO X hi th):PE X (.Subscript e (.Slice lo hi none p2) pos) (nN r te tl th):=by
 intro g s σ H Q I h;refine Subscript_ (cA (n g s σ H _ I h) fun v t f=>?_);obtain⟨x,y,z,B,C⟩:=f;refine wpAny_Slice (cA (o g t σ y _ z C) fun i D ⟨l,E,G,pl,J⟩=>cA (p g D σ E _ G J) fun j a f=>?_);obtain⟨u,k,L,M,N⟩:=f;rw[evalPart_none];refine be ?_;have O:Inv X g σ k { a with heap:=a.heap.push { cls:=.type "slice",data:=.fields #[i,j,.none] } }:=L.kept (t':=a.toks) fun b ob q=>bh _ q;obtain⟨T,id,U,Y,hg⟩:=m g { a with heap:=a.heap.push { cls:=.type "slice",data:=.fields #[i,j,.none] } } σ k x v i j l u a.heap.objs.size Q O B (Heap.IsSliceOf.new ..) pl M N;show wpAny (model X.prog X.w) X.A (subscriptTail e (.Slice lo hi none p2) v (.ref a.heap.objs.size)) (EP X g σ Q) X.xe { a with heap:=a.heap.push { cls:=.type "slice",data:=.fields #[i,j,.none] } };exact tail_any (ops:=[.ref a.heap.objs.size,v]) Y U hg (by with_unfolding_all rfl)
def dq(xs:List V)(lo hi:Option Int):List V:=(xs.drop (HT.sIx xs.length 0 lo)).take (HT.sIx xs.length xs.length hi-HT.sIx xs.length 0 lo)
theorem z_(xs:List V)(lo hi:Option Int):(dq xs lo hi).length<=xs.length:=by
 unfold dq;rw[aL,fc];omega
end
end L2
namespace L2
open PySem PySem.Spec PyProof.Rows
def Es(n:Nat)(i:Int):Option Nat:=if 0<=i then(if i<n then some i.toNat else none)else if -(n:Int)<=i then some (i+n).toNat else none
def yF{α:Type}(xs:List α)(i:Int):Option α:=(Es xs.length i).bind fun j=>xs[j]?
theorem sI{n:Nat}{i:Int}{j:Nat}(h:Es n i=some j):seqIndex? i n=some j/\j<n/\-(n:Int)<=i/\i<n:=by
 unfold Es at h;by_cases f:0<=i
 ·rw[if_pos f]at h;by_cases a:i<n
  ·rw[if_pos a]at h;have e:i.toNat=j:=d4 h;exact⟨by rw[seqIndex_of f a,e],by omega,by omega,a⟩
  ·rw[if_neg a]at h;cases h
 ·rw[if_neg f]at h;by_cases a:-(n:Int)<=i
  ·rw[if_pos a]at h;have e:(i+n).toNat=j:=d4 h;exact⟨by rw[seqIndex_neg (by omega) a,e],by omega,a,by omega⟩
  ·rw[if_neg a]at h;cases h
theorem yE{α:Type}{xs:List α}{i:Int}{v:α}(h:yF xs i=some v):∃j,seqIndex? i xs.length=some j/\xs[j]?=some v/\j<xs.length/\-(xs.length:Int)<=i/\i<xs.length:=by
 unfold yF at h;cases e:Es xs.length i with
 |none=>rw[e]at h;cases h
 |some j =>
  rw[e]at h;obtain⟨a,f,g,k⟩:=sI e;exact⟨j,a,h,f,g,k⟩
theorem bW{α:Type}{xs:List α}{j:Nat}{v:α}(h:xs[j]?=some v):yF xs (j:Int)=some v:=by
 have a:j<xs.length:=(dg.mp h).1;have e:Es xs.length (j:Int)=some j:=by
  unfold Es;rw[if_pos (by omega),if_pos (by omega)];simp
 unfold yF;rw[e];exact h
theorem uM{α:Type}(xs:List α)(v:α):yF (xs++[v]) (-1)=some v:=by
 have a:(xs++[v]).length=xs.length+1:=by simp
 have e:Es (xs++[v]).length (-1)=some xs.length:=by
  unfold Es;rw[a,if_neg (by decide),if_pos (by omega)];congr 1;omega
 unfold yF;rw[e];show(xs++[v])[xs.length]?=some v;simp
def HR(b:Expr):Prop:=∀o i,wV b false o i=operate [o,i] (mS o i)
def HU(X:Cx)(r:R2):Prop :=
 ∀(value slice:Expr) (J6:Zd) (s:Shared) (σ:St) (H:Hp) (x y:V) (v u:Value) (Q:VK),Inv X J6 σ H s->RelV x v->RelV y u->r x y H Q ->
  wV slice false v u=operate [v,u] (mS v u)->wpAny (model X.prog X.w) X.A (subscriptTail value slice v u) (EP X J6 σ Q) X.xe s
def MtR(X:Cx)(id:String)(r:V->List V->Hp->VK->Prop):Prop :=
 ∀(J6:Zd) (s:Shared) (σ:St) (H:Hp) (x:V) (xs:List V) (v:Value) (us:Zf) (Q:VK),Inv X J6 σ H s->RelV x v->bg xs us->r x xs H Q ->
  wpAny (model X.prog X.w) X.A (call (.builtin id) (v::us)) (EP X J6 σ Q) X.xe s
section
variable{X:Cx}{a b:Expr}{ta tb:TE}{pos:Pos}
theorem HU.or{r e:R2}(h:HU X r)(k:HU X e):HU X (fun x y H Q=>r x y H Q∨e x y H Q):=by
 intro value slice f s σ H x y v u Q I g i q j;rcases q with q|q
 ·exact h value slice f s σ H x y v u Q I g i q j
 ·exact k value slice f s σ H x y v u Q I g i q j
theorem CC{r:R2}(e:HU X r)(f:PE X a ta)(g:PE X b tb)(i:HR b):PE X (.Subscript a b pos) (aI r ta tb):=by
 intro j s σ H Q I h;exact Subscript_ (JN f g I h fun v u k x y l m n o q=>e a b j k σ l x y v u Q m n o q (i _ _))
def cy(K:Za):R2:=fun x y H Q=>∃p xs i v,x=.ref p/\y=.int i/\aA K H p xs/\yF xs i=some v/\Q v H
def t8(K:Za):R2:=fun x y H Q=>∃p xs i v,x=.ref p/\y=.int i/\cq K H p xs/\yF xs i=some v/\Q v H
def xL:R2:=fun x y H Q=>∃z i c,x=.str z/\y=.int i/\z.length<=ao/\yF z.cps.toList i=some c/\Q (.str ⟨#[c]⟩) H
theorem CM:HU X (cy X.K):=by
 intro value slice m s σ H x y v u Q I C D h n;obtain⟨p,xs,i,z,rfl,rfl,E,G,q⟩:=h;cases C;obtain⟨t,rfl⟩:=D;obtain⟨g,r,pl,T⟩:=I.list E;obtain⟨j,f,J,U,L,M⟩:=yE G;obtain⟨w,o,k⟩:=r.get J;have N:=r.length;have Y:=qq;have e:EP X m σ Q w s:=⟨z,H,I,k,q⟩;by_cases B:0<=i
 ·have l:i.toNat=j:=by
   rw[seqIndex_of B M]at f;exact d4 f
  exact item_listR pl.isList B (by omega) (by rw[l];simpa using o) e n
 ·have l:(i+(g.toArray.size:Int)).toNat=j:=by
   rw[seqIndex_neg (by omega) L]at f;rw[b_,<-N];exact d4 f
  exact subscriptTail_builtinR (x:=w) pl.isList.typeIs slot_list_getitem.lookup
   (wpAny_getItem_list_neg (Q:=fun r O=>r=w/\EP X m σ Q r O) pl.isList (by omega) (by rw[b_]<;>omega) (by omega) (by rw[l];simpa using o) ⟨rfl,e⟩) n
theorem F1:HU X (t8 X.K):=by
 intro value slice g s σ H x y v u Q I k l h m;obtain⟨p,xs,i,z,rfl,rfl,n,o,q⟩:=h;cases k;obtain⟨t,rfl⟩:=l;obtain⟨B,r,pl,L⟩:=I.tuple n;obtain⟨j,C,D,M,N,O⟩:=yE o;obtain⟨w,E,e⟩:=r.get D;have G:=r.length;have T:=qq;have f:EP X g σ Q w s:=⟨z,H,I,e,q⟩;exact subscriptTail_builtinR (x:=w) pl.typeIs slot_tuple_getitem.lookup
  (getItem_tuple (j:=j) (Q:=fun r J=>r=w/\EP X g σ Q r J) pl (by omega) (by omega) (by rw[b_,<-G];exact C) (by simpa using E) ⟨rfl,f⟩) m
theorem F_:HU X xL:=by
 intro value slice B s σ H x y v u Q I f g h k;obtain⟨z,i,c,rfl,rfl,C,l,q⟩:=h;obtain⟨t,rfl⟩:=f;obtain⟨D,rfl⟩:=g;obtain⟨j,e,m,E,n,o⟩:=yE l;have p:z.cps.toList.length=z.length:=by simp[Str.length]
 rw[p]at e n o;have G:=qq;exact tail_any (wU s z t) slot_str_getitem.lookup (getItem_str (c:=c) (by
  have r:decide (i < -(2 ^ 63:Int))=false:=zzr0 (by omega);have w:decide (i ≥ 2 ^ 63)=false:=zzr0 (by omega);rw[r,w,Bool.or_false]) (by rw[e];simpa using m) ⟨.str ⟨#[c]⟩,H,I.tok _,⟨_,rfl⟩,q⟩) k
def DB(K:Za):R2:=fun x y H Q=>cy K x y H Q∨t8 K x y H Q∨xL x y H Q
theorem Jv:HU X (DB X.K):=CM.or (F1.or F_)
theorem Bh(e:Zf)(n j:Nat)(u:Value):tu (·.setIfInBounds j u) { cls:=.type "list",data:=.seq e.toArray n }={ cls:=.type "list",data:=.seq (e.set j u).toArray n }:=by
 simp[tu]
theorem Inv.lst{g:Zd}{σ:St}{H:Hp}{s:Shared}{p:Addr}{xs:List V}(I:Inv X g σ H s)(h:H p=some (.lst xs)):
  ∃(f:Zf) (n:Nat),bg xs f/\s.heap.get? p=some { cls:=.type "list",data:=.seq f.toArray n }/\xs.length<=ao:=by
 obtain⟨z,f,n,r,e⟩:=I.hok p _ h;exact⟨f,n,r,e,z⟩
theorem Inv.lstUpd{l:Zd}{σ:St}{H:Hp}{s:Shared}{p:Addr}{xs j:List V}{i g:Zf}{n k:Nat}{f:Obj->Obj}(I:Inv X l σ H s)(h:H p=some (.lst xs))
  (m:s.heap.get? p=some { cls:=.type "list",data:=.seq i.toArray n }) (hf:f { cls:=.type "list",data:=.seq i.toArray n }={ cls:=.type "list",data:=.seq g.toArray k }) (r:bg j g) (o:j.length<=ao) (t:Nat) :
  Inv X l σ (upd H p (.lst j)) { s with heap:=s.heap.update p f,toks:=t }:=by
 have e:(s.heap.update p f).get? p=some { cls:=.type "list",data:=.seq g.toArray k }:=by
  rw[hW f m (by rw[hf]<;>rfl),hf]
 refine I.write (x:=p) (e:=p) (by rw[h];trivial) (.inl rfl) (fun b u v q=>(fG _ _ (cZ v)).trans q) ⟨_,e⟩ ?_;exact⟨o,g,k,r,e⟩
def lq:V->V->V->Hp->(Hp->Prop)->Prop:=fun o i v H Q=>∃p xs k j,o=.ref p/\i=.int k/\H p=some (.lst xs)/\Es xs.length k=some j/\Q (upd H p (.lst (xs.set j v)))
theorem fS:KP X lq:=by
 intro C s σ H o i v M N u Q I D E G h;obtain⟨p,xs,k,j,rfl,rfl,w,J,q⟩:=h;cases D;obtain⟨t,rfl⟩:=E;obtain⟨e,n,r,g,L⟩:=I.lst w;obtain⟨f,O,x,y⟩:=sI J;have l:=r.length;have T:=qq;have z:Inv X C σ (upd H p (.lst (xs.set j v))) { s with heap:=s.heap.update p (tu (·.setIfInBounds j u)) } :=
  I.lstUpd w g (Bh e n j u) (r.set G j) (by rw[jv];exact L) s.toks
 by_cases B:0<=k
 ·have m:k.toNat=j:=by
   rw[seqIndex_of B y]at f;exact d4 f
  exact PySem.W.ki_setAt g B (by omega) (by rw[b_,<-l];exact y) (by rw[m];exact⟨_,z,q⟩)
 ·have m:(k+(e.toArray.size:Int)).toNat=j:=by
   rw[seqIndex_neg (by omega) x]at f;rw[b_,<-l];exact d4 f
  exact PySem.W.ki_setBack g (by omega) (by rw[b_,<-l];exact x) (by omega) (by rw[m];exact⟨_,z,q⟩)
theorem xG(lo hi:Option Int)(n:Nat):(mR lo hi none n).1=((HT.sIx n 0 lo:Nat):Int)/\(mR lo hi none n).2.1=((HT.sIx n n hi:Nat):Int)/\(mR lo hi none n).2.2=1:=by
 refine⟨?_,?_,rfl⟩
 ·cases lo with
  |none=>simp[mR,HT.sIx]
  |some i =>
   simp only[mR,HT.sIx,Option.getD_none,show(1:Int) > 0 by decide,if_true];by_cases h:i<0
   ·simp only[h,if_true]<;>omega
   ·simp only[h,if_false]<;>omega
 ·cases hi with
  |none=>simp[mR,HT.sIx]
  |some i =>
   simp only[mR,HT.sIx,Option.getD_none,show(1:Int) > 0 by decide,if_true];by_cases h:i<0
   ·simp only[h,if_true]<;>omega
   ·simp only[h,if_false]<;>omega
theorem vg(e:Zf)(lo hi:Option Int):slicePick e.toArray lo hi none=((e.drop (HT.sIx e.length 0 lo)).take (HT.sIx e.length e.length hi-HT.sIx e.length 0 lo)).toArray:=by
 obtain⟨f,g,h⟩:=xG lo hi e.toArray.size;unfold slicePick;rw[f,g,h];simp only[sliceRange_one,pick_run,b_]<;>rfl
def jb(K:Za):V->Option Int->Option Int->Hp->VK->Prop:=fun x lo hi H Q=>∃a xs,x=.ref a/\aA K H a xs/\∀p,H p=none->Q (.ref p) (upd H p (.lst (dq xs lo hi)))
theorem cv:SlR X (jb X.K):=by
 intro m s σ H x v n p lo hi t Q I g i pl j h;obtain⟨a,xs,rfl,hx,q⟩:=h;cases g;obtain⟨k,r,f,l⟩:=I.list hx;have e:=r.length;refine⟨"list",_,slot_list_getitem.lookup,f.isList.typeIs,?_⟩;refine wpAny_getItem_list_slice f.isList i pl j .none (by simp) ?_ (by rw[b_]<;>omega);rw[vg,<-e];refine⟨.ref s.heap.objs.size,_,I.laid (t':=s.toks) (o:=.lst (dq xs lo hi)) (fun b u q=>bh _ q) (aG _) ?_,rfl,q _ (I.hok.fresh (aG _))⟩;exact⟨aP (z_ xs lo hi) l,_,0,(r.drop (HT.sIx xs.length 0 lo)).take (HT.sIx xs.length xs.length hi-HT.sIx xs.length 0 lo),dJ _ rfl⟩
theorem yB:g7 X (.builtin "len") (fun xs H Q=>∃p f,xs=[.ref p]/\(aA X.K H p f∨cq X.K H p f)/\Q (.int f.length) H):=by
 intro l s σ H xs m Q I r h;obtain⟨p,f,rfl,hq,q⟩:=h;obtain⟨u,rfl,j⟩:=vals1 r;cases j;have n:=qq;rcases hq with hq|hq
 ·obtain⟨g,i,pl,k⟩:=I.list hq;have e:=i.length;exact Calls.call_len_list pl.isList (by simp only[b_]<;>omega) ⟨.int f.length,H,I.tok _,⟨s.toks+1,by rw[b_,e]⟩,q⟩
 ·obtain⟨g,i,pl,k⟩:=I.tuple hq;have e:=i.length;exact len_tuple pl (by simp only[b_]<;>omega) ⟨.int f.length,H,I.tok _,⟨s.toks+1,by rw[b_,e]⟩,q⟩
theorem yz:g7 X (.builtin "len") (fun xs H Q=>∃z,xs=[.str z]/\z.length<=ao/\Q (.int z.length) H):=by
 intro e s σ H xs f Q I r h;obtain⟨z,rfl,g,q⟩:=h;obtain⟨u,rfl,t,rfl⟩:=vals1 r;have i:=qq;exact len_str (by omega) ⟨.int z.length,H,I.tok _,⟨_,rfl⟩,q⟩
theorem g7.or{f:Value}{r e:List V->Hp->VK->Prop}(h:g7 X f r)(k:g7 X f e):g7 X f (fun xs H Q=>r xs H Q∨e xs H Q):=by
 intro g s σ H xs i Q I j q;rcases q with q|q
 ·exact h g s σ H xs i Q I j q
 ·exact k g s σ H xs i Q I j q
theorem yy:g7 X (.type "list") (fun xs H Q=>∃p i,xs=[.ref p]/\(aA X.K H p i∨cq X.K H p i)/\∀l,H l=none->Q (.ref l) (upd H l (.lst i))):=by
 intro C s σ H xs E Q I r h;obtain⟨p,i,rfl,hq,q⟩:=h;obtain⟨u,rfl,D⟩:=vals1 r;cases D;have m:∀(f:Zf),bg i f->i.length<=ao->∀(g:Heap) (j:Nat),(∀b B,s.heap.get? b=some B->g.get? b=some B) ->
   g.get? s.heap.objs.size=some { cls:=.type "list",dict:=none,data:=.seq f.toArray j,slots:=#[] }->EP X C σ Q (.ref s.heap.objs.size) { s with heap:=g }:=fun f k t g j kp e =>
  ⟨.ref s.heap.objs.size,_,I.laid (t':=s.toks) kp (aG _) (show cN X.prog X.w X.K _ g _ (.lst i)from⟨t,f,j,k,e⟩),rfl,q _ (I.hok.fresh (aG _))⟩
 rcases hq with hq|hq
 ·obtain⟨f,k,pl,t⟩:=I.list hq;have v:=k.length;obtain⟨o,x,y,n,z⟩:=pl.isList;exact call_list_seq p (.inl rfl) x y z (fun g j kp e=>m f k t g j kp e) (by simp only[b_]<;>omega)
 ·obtain⟨f,k,pl,t⟩:=I.tuple hq;have v:=k.length;obtain⟨o,x,y,n,z⟩:=pl;exact call_list_seq p (.inr rfl) x y z (fun g j kp e=>m f k t g j kp e) (by simp only[b_]<;>omega)
theorem mJ:g7 X (.type "tuple") (fun xs H Q=>∃p g,xs=[.ref p]/\((aA X.K H p g/\∀l,H l=none->Q (.ref l) (upd H l (.tup g)))∨(cq X.K H p g/\Q (.ref p) H))):=by
 intro m s σ H xs z Q I r h;obtain⟨p,g,rfl,h⟩:=h;obtain⟨u,rfl,x⟩:=vals1 r;cases x;rcases h with⟨j,q⟩|⟨j,q⟩
 ·obtain⟨f,k,pl,n⟩:=I.list j;have t:=k.length;refine call_tuple_list pl.isList (fun i kp=>?_) (by simp only[b_]<;>omega);have v:Inv X m σ H { s with heap:=i }:=I.kept (t':=s.toks) kp;have y:Inv X m σ (upd H i.objs.size (.tup g)) { s with heap:=i.push { cls:=.type "tuple",data:=.seq f.toArray } } :=
   v.laid (t':=s.toks) (fun b o e=>bh _ e) (aG _) (show cN X.prog X.w X.K _ _ _ (.tup g)from⟨n,f,k,IsTup.new _ _⟩)
  exact⟨.ref i.objs.size,_,y,rfl,q _ (v.hok.fresh (aG _))⟩
 ·obtain⟨f,k,pl,n⟩:=I.tuple j;exact call_tuple_same pl ⟨.ref p,H,I,rfl,q⟩
def tyV(K:Za)(T:String)(x:V)(H:Hp):Prop:=match x with
 |.str _=>T="str"
 |.int _=>T="int"
 |.ref p=>(T="list"/\∃xs,aA K H p xs)∨(T="tuple"/\∃o,K.lookup p=some o/\o.cls=.type "tuple"/\o.dict=none) ∨
   (T="dict"/\((∃kvs,H p=some (.dK kvs))∨∃kvs,H p=some (.dT kvs)))∨(T="set"/\∃S n,H p=some (.set S n))
 |_=>False
theorem Aw{l:Zd}{σ:St}{H:Hp}{s:Shared}{T:String}{x:V}{v:Value}(I:Inv X l σ H s)(r:RelV x v)(ty:tyV X.K T x H):
  s.TypeIs v T/\∀a,v=.ref a->∃k,s.heap.get? a=some k/\k.dict=none:=by
 cases x with
 |str z =>
  obtain⟨t,rfl⟩:=r;cases(show T="str" from ty);exact⟨wU s z t,fun _ e=>nomatch e⟩
 |int i =>
  obtain⟨t,rfl⟩:=r;cases(show T="int" from ty);exact⟨typeIs_int s i t,fun _ e=>nomatch e⟩
 |ref p =>
  cases r;rcases ty with⟨rfl,xs,m⟩|⟨rfl,o,f,q,g⟩|⟨rfl,f⟩|⟨rfl,S,n,f⟩
  ·obtain⟨u,_,pl,_⟩:=I.list m;refine⟨pl.isList.typeIs,fun a e=>?_⟩;cases e;obtain⟨o,n,e,c,g,_⟩:=pl;exact⟨o,e,g⟩
  ·refine⟨⟨o,I.kIn p o f,q⟩,fun a e=>?_⟩;cases e;exact⟨o,I.kIn _ o f,g⟩
  ·have z:∃o,s.heap.get? p=some o/\o.ExactDict:=by
    rcases f with⟨h,f⟩|⟨h,f⟩
    ·obtain⟨_,_,_,_,o,_,_,e,ex,_⟩:=I.hok p _ f;exact⟨o,e,ex⟩
    ·obtain⟨_,_,_,_,o,_,_,e,ex,_⟩:=I.hok p _ f;exact⟨o,e,ex⟩
   obtain⟨o,e,ex⟩:=z;refine⟨⟨o,e,ex.1⟩,fun a j=>?_⟩;cases j;exact⟨o,e,ex.2.1⟩
  ·obtain⟨o,_,_,_,e,ex,_⟩:=I.hok p _ f;refine⟨⟨o,e,ex.1⟩,fun a j=>?_⟩;cases j;exact⟨o,e,ex.2.1⟩
 |_=>exact df ty
def Km(K:Za)(T:String)(r:V->List V->Hp->VK->Prop)(to:TE):TE:=fun σ H Q=>to σ H fun x H1=>tyV K T x H1/\r x [] H1 Q
def pf(K:Za)(T:String)(r:V->List V->Hp->VK->Prop)(to:TE)(t:TA):TE:=fun σ H Q=>to σ H fun x H1=>tyV K T x H1/\t σ H1 fun xs H2=>r x xs H2 Q
variable{o e:Expr}{es:List Expr}{to:TE}{t:TA}{name:Str}{J8 J7:Pos}{T id:String}{r:V->List V->Hp->VK->Prop}
theorem Jr(p:PlainAttrs T)(i:Slot T name id)(j:typeOf (.builtin id)=pure (.type "method_descriptor"))(q:MtR X id r)(u:PE X o to)
  (f:sO o name X.env (eval o X.env)=eval o X.env:=by rfl) (g:(J8.endLine==J7.line)=true:=by rfl):PE X (.Call (.Attribute o name J8) [] [] J7) (Km X.K T r to):=by
 intro l s σ H Q I h;refine wpAny_Call_method0_late f g (cA (u l s σ H _ I h) fun v w k=>?_);obtain⟨x,y,m,n,ty,z⟩:=k;obtain⟨B,C⟩:=Aw m n ty;exact⟨T,id,p,i,j,B,C,wT rfl (PySem.evalArgs_none (q l w σ y x [] v [] Q m n .nil z))⟩
theorem d9(w:PlainAttrs T)(j:Slot T name id)(l:typeOf (.builtin id)=pure (.type "method_descriptor"))(y:MtR X id r)(z:PE X o to)(B:PA X (e::es) t)
  (g:sO o name X.env (eval o X.env)=eval o X.env:=by rfl)
  (k:((backTo J7 (aB (e::es) X.env)).all (fun x=>!x.1) && (mW J7 (mV [] X.env)).all (fun x=>x.1.isSome)
   && decide ((e::es).length+([]:List pJ).length+(if([]:List pJ).isEmpty then 0 else 1)<30))=true:=by rfl)
  (i:(J8.endLine==J7.line)=true:=by rfl) (C:aB (e::es) X.env=(false,eval e X.env)::aB es X.env:=by rfl) (f:(backTo J7 (aB es X.env)).any (·.1)=false:=by rfl) :
  PE X (.Call (.Attribute o name J8) (e::es) [] J7) (pf X.K T r to t):=by
 intro m s σ H Q I h;refine wpAny_Call_method_late g k i rfl (cA (z m s σ H _ I h) fun v D n=>?_);obtain⟨x,E,p,q,ty,G⟩:=n;obtain⟨J,L⟩:=Aw p q ty;refine⟨T,id,w,j,l,J,L,?_⟩;have u:=B J7 m D σ E _ p G;rw[C]at u ⊢;refine wT (by show(false || (backTo J7 (aB es X.env)).any (·.1))=false;rw[f]<;>rfl) (Calls.evalArgs_plain ?_);exact cA u fun M N ⟨O,U,Y,r2,q2⟩=>y m N σ U x O v M Q Y q r2 q2
end
end L2
namespace L2
open PySem PySem.Spec PyProof.Rows
def JW(X:Cx)(id:String)(r:V->List V->Hp->VK->Prop):Prop :=
 ∀(J6:Zd) (s:Shared) (σ:St) (H:Hp) (x:V) (xs:List V) (v:Value) (us:Zf) (Q:VK),Inv X J6 σ H s->RelV x v->bg xs us->r x xs H Q ->
  wpAny (model X.prog X.w) X.A (call (.builtin id) (v::us)) (EP X J6 σ Q) X.xe s
theorem bg.one{x:V}{a:Zf}(h:bg [x] a):∃u,a=[u]/\RelV x u:=by
 cases h with
 |cons r t=>cases t;exact⟨_,rfl,r⟩
theorem bg.two{x y:V}{a:Zf}(h:bg [x,y] a):∃u v,a=[u,v]/\RelV x u/\RelV y v:=by
 cases h with
 |cons r t =>
  obtain⟨v,e,q⟩:=bg.one t;exact⟨_,v,by rw[e],r,q⟩
theorem bg.zero:∀{a:Zf},bg [] a->a=[]
 |_,.nil=>rfl
theorem bg.dropLast{xs:List V}{a:Zf}(h:bg xs a):bg xs.dropLast a.dropLast:=by
 induction h with
 |nil=>exact .nil
 |cons r t e =>
  cases t with
  |nil=>exact .nil
  |cons q f=>exact .cons r e
theorem bg.eraseIdx:∀{xs:List V}{a:Zf}(i:Nat),bg xs a->bg (xs.eraseIdx i) (a.eraseIdx i)
 |_,_,_,.nil=>.nil
 |_,_,0,.cons _ t=>t
 |_,_,i+1,.cons r t=>.cons r (bg.eraseIdx i t)
theorem By{α:Type}(l:List α):l.eraseIdx (l.length-1)=l.dropLast:=by
 induction l with
 |nil=>rfl
 |cons a r f =>
  cases r with
  |nil=>rfl
  |cons b r =>
   have e:(a::b::r).length-1=((b::r).length-1)+1:=by
    have g:(a::b::r).length=r.length+2:=rfl;have h:(b::r).length=r.length+1:=rfl;omega
   rw[e,List.eraseIdx_cons_succ,f]
   all_goals rfl
theorem v5{α:Type}:∀(l:List α) (i:Nat),(l.eraseIdx i).length<=l.length
 |[],_=>aG _
 |_::_,0=>hV _
 |_::r,i+1=>Nat.succ_le_succ (v5 r i)
section
variable{X:Cx}{J6:Zd}{σ:St}{H:Hp}{s:Shared}{l b:Addr}{xs ys zs:List V}
theorem Inv.lset{a its':Zf}{n:Nat}{f:Array Value->Array Value}{g:Nat}(I:Inv X J6 σ H s)(h:H l=some (.lst xs))
  (e:s.heap.get? l=some { cls:=.type "list",data:=.seq a.toArray n }) (hf:f a.toArray=its'.toArray) (i:bg ys its') (j:ys.length<=ao) :
  Inv X J6 σ (upd H l (.lst ys)) { s with heap:=s.heap.update l (tu f),toks:=g }:=by
 have q:=PySem.IsL.update e f;rw[hf]at q;refine I.write (x:=l) (e:=l) (by rw[h];exact trivial) (.inl rfl) (fun o u k m=>(fG s.heap (tu f) (cZ k)).trans m) ⟨_,q⟩ ?_;exact⟨j,its',_,i,q⟩
theorem Inv.lnew{a:Zf}{t':Nat}(I:Inv X J6 σ H s)(e:bg ys a)(f:ys.length<=ao):
  Inv X J6 σ (upd H s.heap.objs.size (.lst ys)) { s with heap:=s.heap.push { cls:=.type "list",data:=.seq a.toArray },toks:=t' } :=
 I.laid (fun _ _ q=>bh _ q) (aG _) ⟨f,a,0,e,dJ _ rfl⟩
theorem Inv.fresh(I:Inv X J6 σ H s):H s.heap.objs.size=none:=I.hok.fresh (aG _)
theorem Inv.lstM(I:Inv X J6 σ H s)(f:H l=some (.lst xs)):xs.length<=ao/\∃(a:Zf) (n:Nat),bg xs a/\xs.length=a.length/\s.heap.get? l=some { cls:=.type "list",data:=.seq a.toArray n }:=by
 obtain⟨z,a,n,r,e⟩:=I.hok l _ f;exact⟨z,a,n,r,r.length,e⟩
end
section
variable{X:Cx}
def fV:V->List V->Hp->VK->Prop:=fun x vs H Q=>∃l xs y,x=.ref l/\vs=[y]/\H l=some (.lst xs)/\xs.length<ao/\Q .non (upd H l (.lst (xs++[y])))
theorem dO:JW X "list.append" fV:=by
 intro k s σ H x m v o Q I g i h;obtain⟨l,xs,y,rfl,rfl,f,p,q⟩:=h;cases g;obtain⟨u,rfl,j⟩:=i.one;obtain⟨z,a,n,r,t,e⟩:=I.lstM f;refine k7 F.slot_list_append ⟨_,e,rfl⟩ F.entry_list_append (F.args_list_append_2 _ _) (PySem.list_append l a.toArray n u (by rw[b_];omega)) ⟨e,?_⟩;refine⟨.non,_,I.lset (its':=a++[u]) f e (by simp) (r.append (.cons j .nil)) ?_,rfl,q⟩;rw[aV,List.length_singleton];omega
def Kt:V->List V->Hp->VK->Prop:=fun x vs H Q=>∃l xs y,x=.ref l/\vs=[]/\H l=some (.lst xs)/\xs[xs.length-1]?=some y/\Q y (upd H l (.lst xs.dropLast))
theorem Js:JW X "list.pop" Kt:=by
 intro w s σ H x B v C Q I j k h;obtain⟨l,xs,y,rfl,rfl,i,m,q⟩:=h;cases j;have f:=k.zero;subst f;obtain⟨z,a,n,r,o,e⟩:=I.lstM i;obtain⟨u,p,t⟩:=r.get m;have g:a.toArray[a.toArray.size-1]?=some u:=by
  show a.toArray[a.length-1]?=some u;rw[<-Array.getElem?_toList,<-o];exact p
 refine k7 F.slot_list_pop ⟨_,e,rfl⟩ F.entry_list_pop (F.args_list_pop_1 _) (MeetsSeq.list_pop_last l a.toArray n u g (by rw[b_];omega)) ⟨e,?_⟩;refine⟨y,_,I.lset (its':=a.dropLast) i e ?_ r.dropLast ?_,t,q⟩
 ·show a.toArray.eraseIdxIfInBounds (a.toArray.size-1)=a.dropLast.toArray;rw[b_,List.eraseIdxIfInBounds_toArray,By]
 ·rw[List.length_dropLast];omega
def A8:V->List V->Hp->VK->Prop:=fun x vs H Q=>∃l xs i k y,x=.ref l/\vs=[.int i]/\H l=some (.lst xs)/\-(2 ^ 63)<=i/\i<2 ^ 63/\seqIndex? i xs.length=some k/\xs[k]?=some y/\Q y (upd H l (.lst (xs.eraseIdx k)))
theorem zO:JW X "list.pop" A8:=by
 intro J s σ H x L v M Q I j m h;obtain⟨l,xs,i,k,y,rfl,rfl,g,o,p,B,C,q⟩:=h;cases j;obtain⟨u,rfl,D⟩:=m.one;obtain⟨t,rfl⟩:=D;obtain⟨z,a,n,r,E,e⟩:=I.lstM g;obtain⟨w,G,f⟩:=r.get C;refine k7 F.slot_list_pop ⟨_,e,rfl⟩ F.entry_list_pop (F.args_list_pop_2 _ _)
  (MeetsSeq.list_pop_at l a.toArray n i t k w (fitsIndex_both o p) (by rw[b_,<-E];exact B) (by rw[<-Array.getElem?_toList];exact G) (by rw[b_];omega)) ⟨e,?_⟩
 refine⟨y,_,I.lset (its':=a.eraseIdx k) g e ?_ (r.eraseIdx k) ?_,f,q⟩
 ·show a.toArray.eraseIdxIfInBounds k=(a.eraseIdx k).toArray;rw[List.eraseIdxIfInBounds_toArray]
 ·have:=v5 xs k;omega
def DD:R2:=fun x y H Q=>∃l b xs zs,x=.ref l/\y=.ref b/\H l=some (.lst xs)/\H b=some (.lst zs)/\xs.length+zs.length<=ao/\∀p,H p=none->Q (.ref p) (upd H p (.lst (xs++zs)))
theorem ue:mK X (nR .Add) DD:=by
 intro w s σ H x y v u Q I g i h;obtain⟨l,b,xs,B,rfl,rfl,j,k,C,q⟩:=h;cases g;cases i;obtain⟨z,f,n,r,D,e⟩:=I.lstM j;obtain⟨E,a,G,m,o,p⟩:=I.lstM k;refine PySem.P.add_list e p ?_ (by rw[b_,b_];omega);have t:f.toArray++a.toArray=(f++a).toArray:=by simp
 rw[t];exact⟨.ref _,_,I.lnew (t':=s.toks) (r.append m) (by rw[aV];omega),rfl,q _ I.fresh⟩
end
end L2
namespace L2
open PySem PySem.Spec PyProof.Rows
section
variable{κ:Type}[DecidableEq κ]
def eh(kvs:List (κ×V))(k:κ):Option V:=(kvs.find? fun kv=>decide (kv.1=k)).map (·.2)
def gU(kvs:List (κ×V))(k:κ)(v:V):List (κ×V) :=
 if(kvs.any fun kv=>decide (kv.1=k))=true then kvs.map (fun kv=>if kv.1=k then(kv.1,v)else kv)else kvs++[(k,v)]
theorem d5{p:κ×V}{r:List (κ×V)}{k:κ}(e:p.1=k):eh (p::r) k=some p.2:=by simp[eh,pI,e]
theorem dL{p:κ×V}{r:List (κ×V)}{k:κ}(e:¬p.1=k):eh (p::r) k=eh r k:=by simp[eh,pI,e]
theorem ll(k:κ):∀a:List (κ×V),(a.any fun f=>decide (f.1=k))=(eh a k).isSome
 |[]=>rfl
 |p::r=>by
  rw[wS];by_cases e:p.1=k
  ·simp only[d5 e,zzr1 e,Bool.true_or,Option.isSome_some]
  ·rw[dL e,zzr0 e,Bool.false_or];exact ll k r
theorem zb(k j:κ)(y:V):∀a:List (κ×V),eh (a.map fun f=>if f.1=k then(f.1,y)else f) j=(eh a j).map fun x=>if j=k then y else x
 |[]=>rfl
 |p::r=>by
  have g:=zb k j y r;rw[aS];by_cases h:p.1=k
  ·rw[if_pos h];by_cases e:p.1=j
   ·rw[d5 (p:=(p.1,y)) e,d5 e,tq,if_pos (e.symm.trans h)]
   ·rw[dL (p:=(p.1,y)) e,dL e,g]
  ·rw[if_neg h];by_cases e:p.1=j
   ·rw[d5 (p:=p) e,d5 e,tq,if_neg (fun z=>h (e.trans z))]
   ·rw[dL (p:=p) e,dL e,g]
theorem vF(k j:κ)(y:V):∀a:List (κ×V),eh a k=none->eh (a++[(k,y)]) j=if j=k then some y else eh a j
 |[],_=>by
  by_cases e:k=j
  ·rw[if_pos e.symm];exact d5 (p:=(k,y)) e
  ·rw[if_neg (fun z=>e z.symm)];exact dL (p:=(k,y)) e
 |p::r,f=>by
  rw[j7];have g:¬p.1=k:=fun z=>by rw[d5 z]at f;cases f
  rw[dL g]at f;have h:=vF k j y r f;by_cases e:p.1=j
  ·rw[d5 e,d5 e,if_neg (fun z=>g (e.trans z))]
  ·rw[dL e,dL e,h]
theorem y_(f:List (κ×V))(k j:κ)(y:V):eh (gU f k y) j=if j=k then some y else eh f j:=by
 unfold gU;by_cases a:(f.any fun g=>decide (g.1=k))=true
 ·rw[if_pos a,zb];rw[ll]at a;by_cases e:j=k
  ·obtain⟨x,hx⟩:=wX.mp a;rw[if_pos e,e,hx,tq,if_pos rfl]
  ·rw[if_neg e];cases eh f j with
   |none=>rfl
   |some x=>rw[tq,if_neg e]
 ·rw[if_neg a];refine vF k j y f ?_;rw[ll]at a;cases q:eh f k with
  |none=>rfl
  |some x=>rw[q]at a;exact(a rfl).elim
theorem lG(a:List (κ×V))(k:κ)(v:V):(gU a k v).length<=a.length+1:=by
 unfold gU;split
 ·rw[aq];omega
 ·rw[aV,bP,pH];omega
theorem zE{a:List (κ×V)}{k:κ}(v:V)(h:eh a k=none):gU a k v=a++[(k,v)]:=by
 unfold gU;rw[ll,h];exact if_neg (by decide)
theorem iV.isSome_eq{o:Option V}{u:Option Value}(r:iV o u):o.isSome=u.isSome:=by
 cases o with
 |none=>cases u with
  |none=>rfl
  |some _=>exact(show False from r).elim
 |some _=>cases u with
  |none=>exact(show False from r).elim
  |some _=>rfl
theorem iV.getD{o:Option V}{u:Option Value}{d:V}{a:Value}(r:iV o u)(e:RelV d a):RelV (o.getD d) (u.getD a):=by
 cases o with
 |none=>cases u with
  |none=>exact e
  |some _=>exact(show False from r).elim
 |some _=>cases u with
  |none=>exact(show False from r).elim
  |some _=>exact r
theorem KV.val{a:List (κ×V)}{g:List (κ×Value)}(r:KV a g)(k:κ):iV (eh a k) (mQ g k):=by
 unfold KV at r
 induction r with
 |nil=>exact eU
 |@cons p q m qs h t j =>
  obtain⟨i,l⟩:=h;by_cases e:p.1=k
  ·have f:q.1=k:=i.symm.trans e;have b:mQ (q::qs) k=some q.2:=by simp[mQ,pI,f]
   rw[d5 e,b];exact l
  ·have f:¬q.1=k:=fun z=>e (i.trans z);have b:mQ (q::qs) k=mQ qs k:=by simp[mQ,pI,f]
   rw[dL e,b];exact j
theorem KV.any{a:List (κ×V)}{f:List (κ×Value)}(r:KV a f)(k:κ):(a.any fun e=>decide (e.1=k))=f.any fun e=>decide (e.1=k):=by
 unfold KV at r
 induction r with
 |nil=>rfl
 |cons h t g=>rw[wS,wS,g,h.1]
theorem KV.repl{f:List (κ×V)}{i:List (κ×Value)}(r:KV f i)(k:κ){y:V}{u:Value}(j:RelV y u):
  KV (f.map fun a=>if a.1=k then(a.1,y)else a) (i.map fun a=>if a.1=k then(a.1,u)else a):=by
 unfold KV at r ⊢
 induction r with
 |nil=>exact .nil
 |@cons p q n qs h t l =>
  rw[aS,aS];refine .cons ?_ l;obtain⟨g,m⟩:=h;by_cases e:p.1=k
  ·rw[if_pos e,if_pos (g.symm.trans e)];exact⟨g,j⟩
  ·rw[if_neg e,if_neg (fun z=>e (g.trans z))];exact⟨g,m⟩
theorem KV.put{a:List (κ×V)}{f:List (κ×Value)}(r:KV a f)(k:κ){y:V}{u:Value}(g:RelV y u):KV (gU a k y) (stored f k u):=by
 unfold gU stored;rw[r.any k];by_cases e:(f.any fun h=>decide (h.1=k))=true
 ·rw[if_pos e,if_pos e];exact r.repl k g
 ·rw[if_neg e,if_neg e];exact wR r ⟨rfl,g⟩
theorem KV.length{a:List (κ×V)}{e:List (κ×Value)}(r:KV a e):a.length=e.length:=Paired.length r
end
theorem rE{P:bF}{w:World}{k:eE}{u:Value}(r:RelV (kV k) u):(cF P w).is k u=true:=by
 cases k with
 |inl i=>obtain⟨t,e⟩:=(show ∃t,u=Value.int i t from r);subst e;exact zQ P w i t
 |inr x=>obtain⟨t,e⟩:=(show ∃t,u=Value.str x t from r);subst e;exact zP P w x t
theorem x_:∀{k:nI}{u:Value},RelV (Iv k) u->iS k u=true
 |none,u,r=>by cases(show u=Value.none from r);rfl
 |some (.inl i),u,r=>by obtain⟨t,rfl⟩:=r;exact md i t
 |some (.inr x),u,r=>by obtain⟨t,rfl⟩:=r;exact ma x t
abbrev KT(K:Za)(H:Hp):List (TK×V)->List (TK×Addr×Value)->Prop:=Paired fun p q=>p.1=q.1/\Ao K H p.1 (.ref q.2.1)/\p.1.depth<=8/\RelV p.2 q.2.2
theorem KT.val{K:Za}{H:Hp}{a:List (TK×V)}{xs:List (TK×Addr×Value)}(r:KT K H a xs)(k:TK):iV (eh a k) ((atKey xs k).map (·.2)):=by
 induction r with
 |nil=>exact eU
 |@cons p q l qs h t i =>
  obtain⟨g,_,_,j⟩:=h;by_cases e:p.1=k
  ·have f:q.1=k:=g.symm.trans e;have b:atKey (q::qs) k=some q.2:=by simp[atKey,pI,f]
   rw[d5 e,b];exact j
  ·have f:¬q.1=k:=fun z=>e (g.trans z);have b:atKey (q::qs) k=atKey qs k:=by simp[atKey,pI,f]
   rw[dL e,b];exact i
theorem KT.repl{K:Za}{H:Hp}{a:List (TK×V)}{xs:List (TK×Addr×Value)}(r:KT K H a xs)(k:TK){y:V}{u:Value}(l:RelV y u):
  KT K H (a.map fun g=>if g.1=k then(g.1,y)else g) (xs.map (putAt k u)):=by
 induction r with
 |nil=>exact .nil
 |@cons p q n qs h t m =>
  rw[aS,aS];refine .cons ?_ m;obtain⟨f,i,j⟩:=h;unfold putAt;by_cases e:p.1=k
  ·rw[if_pos e,if_pos (f.symm.trans e)];exact⟨f,i,j.1,l⟩
  ·rw[if_neg e,if_neg (fun z=>e (f.trans z))];exact⟨f,i,j⟩
theorem KT.put{K:Za}{H:Hp}{a:List (TK×V)}{xs:List (TK×Addr×Value)}(r:KT K H a xs)(k:TK){b:Addr}{y:V}{u:Value}(g:Ao K H k (.ref b))(h:k.depth<=8)(f:RelV y u):
  KT K H (gU a k y) (storedH xs k b u):=by
 have e:(a.any fun i=>decide (i.1=k))=(atKey xs k).isSome:=by
  rw[ll,(r.val k).isSome_eq,Option.isSome_map]
 unfold gU storedH;rw[e];by_cases q:(atKey xs k).isSome=true
 ·rw[if_pos q,if_pos q];exact r.repl k f
 ·rw[if_neg q,if_neg q];exact wR r ⟨rfl,g,h,f⟩
theorem KT.keeps{K:Za}{H a:Hp}{kvs:List (TK×V)}{xs:List (TK×Addr×Value)}(r:KT K H kvs xs)(f:∀b e,H b=some (.tup e)->a b=some (.tup e)):KT K a kvs xs :=
 Paired.mapP r fun _ _ z=>⟨z.1,Ao.keeps f 8 z.2.2.1 z.2.1,z.2.2⟩
section
variable{P:bF}{w:World}{K:Za}{H:Hp}{h:Heap}{a:Addr}
theorem Ig{u:HO}(ok:kO P w K H h)(e:Rd H a u):cN P w K H h a u:=e.ok ok
theorem rK{f:List (eE×V)}(ok:kO P w K H h)(e:Rd H a (.dK f)):f.length<=ao/\(a==jI)=false/\∃g,KV f g/\h.DictOf (cF P w) a g :=
 show cN P w K H h a (.dK f)from Ig ok e
theorem KJ{f:List (eE×V)}(ok:kO P w K H h)(e:H a=some (.dK f)):f.length<=ao/\(a==jI)=false/\∃g,KV f g/\h.DictOf (cF P w) a g:=rK ok (.inl e)
theorem IS(ok:kO P w K H h)(y:K.In h):∀(d:Nat) {k:TK}{v:V}{u:Value},k.depth<=d->Ao K H k v->RelV v u->my h k u:=by
 have z:∀(d:Nat) (s:∀{k:TK}{v:V}{u:Value},k.depth<=d->Ao K H k v->RelV v u->my h k u) (g:List TK) (i:List V) (x:Zf),TK.depths g<=d->TKCs K H g i->bg i x->TAts h g x:=by
  intro d s g
  induction g with
  |nil =>
   intro i x _ hx r;have e:i=[]:=hx;subst e;cases r
   rfl
  |cons k g B =>
   intro i x j hx r;obtain⟨v,C,rfl,m,D⟩:=hx;cases r with
   |@cons _ u _ q I J =>
    have L:max k.depth (TK.depths g)<=d:=j;exact⟨u,q,rfl,s (by omega) m I,B C q (by omega) D J⟩
 intro d
 induction d with
 |zero =>
  intro k v u j hx r;cases k with
  |t l=>exact absurd j (by show ¬(TK.depths l+1<=0);omega)
  |k b =>
   have e:v=Iv b:=hx;subst e;exact x_ r
 |succ d s =>
  intro k v u j hx r;cases k with
  |k b =>
   have e:v=Iv b:=hx;subst e;exact x_ r
  |t l =>
   obtain⟨b,xs,rfl,E,hi⟩:=hx;cases(show u=Value.ref b from r);obtain⟨f,G,M,m,D,n,N⟩:∃f:List Value,bg xs f/\IsTup h b f.toArray:=by
    rcases E with E|⟨o,f,n,O,Q,T,U,r⟩
    ·obtain⟨_,f,G,p⟩:=(show cN P w K H h b (.tup xs)from ok b _ E);exact⟨f,G,p⟩
    ·exact⟨f.toList,r,o,y b o O,Q,n,by simpa using T⟩
   exact⟨b,M,f.toArray,n,rfl,m,D,N,by simpa using z d (fun m=>s m) l xs f (by have:TK.depths l+1<=d+1:=j;omega) hi G⟩
theorem Bn{k:TK}(ok:kO P w K H h)(f:K.In h)(e:Ao K H k (.ref a))(g:k.depth<=8):(fR P w).is h k a:=⟨IS ok f 8 g e rfl,g⟩
theorem uB{f:List (TK×V)}(ok:kO P w K H h)(i:K.In h)(e:Rd H a (.dT f)):f.length<=ao/\(a==jI)=false /\
  ∃xs,KT K H f xs/\h.DictOfH (fR P w) a xs:=by
 obtain⟨z,y,xs,r,o,j,k,n,s,u,v,B⟩:=(show cN P w K H h a (.dT f)from Ig ok e);refine⟨z,y,xs,r,o,j,k,n,s,u,v,fun x hx=>?_,B⟩;have all:∀{l:List (TK×V)}{m:List (TK×Addr×Value)},KT K H l m->∀x∈m,(fR P w).is h x.1 x.2.1:=by
  intro l m q
  induction q with
  |nil=>intro x hx;exact nomatch hx
  |@cons p q D qs g t C =>
   intro x hx;rcases bw.mp hx with e|hx
   ·subst e;exact Bn ok i (by rw[<-g.1];exact g.2.1) (by rw[<-g.1];exact g.2.2.1)
   ·exact C x hx
 exact all r x hx
theorem Iz{f:List (TK×V)}(ok:kO P w K H h)(g:K.In h)(e:H a=some (.dT f)):f.length<=ao/\(a==jI)=false /\
  ∃xs,KT K H f xs/\h.DictOfH (fR P w) a xs:=uB ok g (.inl e)
end
mutual
def si(K:Za)(H:Hp):TK->V->Prop
 |.k a,v=>v=Iv a
 |.t l,v=>∃b xs,v=.ref b/\cq K H b xs/\TKIns K H l xs
def TKIns(K:Za)(H:Hp):List TK->List V->Prop
 |[],vs=>vs=[]
 |k::r,vs=>∃v us,vs=v::us/\si K H k v/\TKIns K H r us
end
theorem ir.isIn{K:Za}{H:Hp}:∀(d:Nat) {k:TK}{v:V},k.depth<=d->ir H k v->si K H k v:=by
 have h:∀(d:Nat) (f:∀{k:TK}{v:V},k.depth<=d->ir H k v->si K H k v) (xs:List TK) (g:List V),TK.depths xs<=d->TKAts H xs g->TKIns K H xs g:=by
  intro d f xs
  induction xs with
  |nil=>intro g _ hx;exact hx
  |cons x xs i =>
   intro g e hx;obtain⟨v,n,rfl,j,m⟩:=hx;have o:max x.depth (TK.depths xs)<=d:=e;exact⟨v,n,rfl,f (by omega) j,i n (by omega) m⟩
 intro d
 induction d with
 |zero =>
  intro k v e hx;cases k with
  |t l=>exact absurd e (by show ¬(TK.depths l+1<=0);omega)
  |k a=>exact hx
 |succ d f =>
  intro k v e hx;cases k with
  |k a=>exact hx
  |t l =>
   obtain⟨b,xs,rfl,p,hi⟩:=hx;exact⟨b,xs,rfl,cq.of p,h d (fun q=>f q) l xs (by have:TK.depths l+1<=d+1:=e;omega) hi⟩
theorem GV{X:Cx}{y:Zd}{σ:St}{H:Hp}{s:Shared}(I:Inv X y σ H s):∀(d:Nat) {k:TK}{v:V}{u:Value},k.depth<=d->si X.K H k v->RelV v u->my s.heap k u:=by
 have p:∀(d:Nat) (m:∀{k:TK}{v:V}{u:Value},k.depth<=d->si X.K H k v->RelV v u->my s.heap k u) (a:List TK) (f:List V) (o:Zf),TK.depths a<=d->TKIns X.K H a f->bg f o->TAts s.heap a o:=by
  intro d m a
  induction a with
  |nil =>
   intro f o _ hx r;have e:f=[]:=hx;subst e;cases r
   rfl
  |cons k a q =>
   intro f o g hx r;obtain⟨v,w,rfl,h,x⟩:=hx;cases r with
   |@cons _ u _ i z B =>
    have C:max k.depth (TK.depths a)<=d:=g;exact⟨u,i,rfl,m (by omega) h z,q w i (by omega) x B⟩
 intro d
 induction d with
 |zero =>
  intro k v u g hx r;cases k with
  |t l=>exact absurd g (by show ¬(TK.depths l+1<=0);omega)
  |k b =>
   have e:v=Iv b:=hx;subst e;exact x_ r
 |succ d m =>
  intro k v u g hx r;cases k with
  |k b =>
   have e:v=Iv b:=hx;subst e;exact x_ r
  |t l =>
   obtain⟨b,xs,rfl,D,hi⟩:=hx;cases(show u=Value.ref b from r);obtain⟨j,E,⟨G,h,x,n,J⟩,_⟩:=I.tuple D;exact⟨b,G,j.toArray,n,rfl,h,x,J,by simpa using p d (fun h=>m h) l xs j (by have:TK.depths l+1<=d+1:=g;omega) hi E⟩
theorem x9{X:Cx}{f:Zd}{σ:St}{H:Hp}{s:Shared}{k:TK}{b:Addr}(I:Inv X f σ H s)(e:si X.K H k (.ref b))(a:k.depth<=8):(fR X.prog X.w).is s.heap k b:=⟨GV I 8 a e rfl,a⟩
theorem ix{P:bF}{w:World}{A:Around}(a:A.units+16<cLine):(fR P w).room A.in1:=by
 show A.units+1+8<cLine;omega
def yR(K:Za)(H:Hp)(a:Addr)(y:V)(r:Option V):Prop :=
 (∃kvs k,Rd H a (.dK kvs)/\y=kV k/\r=eh kvs k)∨∃kvs k b,Rd H a (.dT kvs)/\y=.ref b/\si K H k (.ref b)/\k.depth<=8/\r=eh kvs k
def KZ(H:Hp)(a:Addr)(y v:V)(H':Hp):Prop :=
 (∃kvs k,H a=some (.dK kvs)/\y=kV k/\kvs.length<ao/\H'=upd H a (.dK (gU kvs k v))) ∨
 ∃kvs k b,H a=some (.dT kvs)/\y=.ref b/\ir H k (.ref b)/\k.depth<=8/\kvs.length<ao/\H'=upd H a (.dT (gU kvs k v))
section
variable{X:Cx}{J6:Zd}{σ:St}{H:Hp}{s:Shared}{a:Addr}{y v:V}{u r:Value}{o:Option V}{A:Around}{E:Zc}
theorem Inv.big(I:Inv X J6 σ H s):jI<s.heap.objs.size:=by
 have h:cb<s.heap.objs.size:=(I.mod.glob.keeps I.bk).lt;exact Nat.lt_trans (by decide) h
theorem D0{Q:Zc}(D:A.units+16<cLine)(I:Inv X J6 σ H s)(g:yR X.K H a y (some v))(B:RelV y u)(h:∀j C,Inv X J6 σ H C->RelV v j->Q j C):
  wpAny (model X.prog X.w) A (mS (.ref a) u) Q E s:=by
 rcases g with⟨m,k,e,n,l⟩|⟨m,k,b,e,n,G,J,l⟩
 ·subst n;obtain⟨z,L,M,f,q⟩:=rK I.hok e;obtain⟨j,t,i⟩:=iV.some_of (v:=v) (o:=mQ M k) (by rw[l];exact f.val k);exact wpAny_getItem_of (rE B) q.mapOf t (h j _ (I.tok _) i)
 ·subst n;cases(show u=Value.ref b from B);obtain⟨z,L,xs,f,q⟩:=uB I.hok I.kIn e;obtain⟨j,t,i⟩:=iV.some_of (v:=v) (o:=(atKey xs k).map (·.2)) (by rw[l];exact f.val k);obtain⟨p,N,x⟩:=pG.mp t;refine wpAny_getItem_heap (ix D) (x9 I G J) q N ?_;rw[x];exact h j _ (I.tok _) i
theorem d_in{Q:Zc}(t:A.units+16<cLine)(I:Inv X J6 σ H s)(g:yR X.K H a y o)(n:RelV y u)(h:∀p,Inv X J6 σ H p->Q (.bool o.isSome) p):
  wpAny (model X.prog X.w) A (eG .In u (.ref a)) Q E s:=by
 rcases g with⟨i,k,e,j,l⟩|⟨i,k,b,e,j,x,B,l⟩
 ·subst j;obtain⟨z,hd,C,f,m⟩:=rK I.hok e;refine wpAny_in_of (rE n) hd m.mapOf ?_;rw[<-(f.val k).isSome_eq,<-l];exact h _ (I.tok _)
 ·subst j;cases(show u=Value.ref b from n);obtain⟨z,hd,xs,f,m⟩:=uB I.hok I.kIn e;refine wpAny_in_heap (ix t) (x9 I x B) hd m ?_;have q:=(f.val k).isSome_eq;rw[Option.isSome_map]at q;rw[<-q,<-l];exact h _ (I.tok _)
theorem HJ{Q:Zc}(t:A.units+16<cLine)(I:Inv X J6 σ H s)(g:yR X.K H a y o)(n:RelV y u)(h:∀p,Inv X J6 σ H p->Q (.bool (!o.isSome)) p):
  wpAny (model X.prog X.w) A (eG .NotIn u (.ref a)) Q E s:=by
 rcases g with⟨i,k,e,j,l⟩|⟨i,k,b,e,j,x,B,l⟩
 ·subst j;obtain⟨z,hd,C,f,m⟩:=rK I.hok e;refine wpAny_notIn_of (rE n) hd m.mapOf ?_;rw[<-(f.val k).isSome_eq,<-l];exact h _ (I.tok _)
 ·subst j;cases(show u=Value.ref b from n);obtain⟨z,hd,xs,f,m⟩:=uB I.hok I.kIn e;refine wpAny_notIn_heap (ix t) (x9 I x B) hd m ?_;have q:=(f.val k).isSome_eq;rw[Option.isSome_map]at q;rw[<-q,<-l];exact h _ (I.tok _)
theorem yt{f:Heap}{g:Nat}{ob:HO}(I:Inv X J6 σ H s)(h:KR (H a))(i:jH a s.heap f)(j:∃q,f.get? a=some q)(new:cN X.prog X.w X.K (upd H a ob) f a ob):
  Inv X J6 σ (upd H a ob) { s with heap:=f,toks:=g } :=
 I.write (x:=a) (e:=a) h (.inl rfl) (fun b q k z=>(i.2 b k).trans z) j new
theorem Gm{P:bF}{w:World}{K:Za}{i:Hp}{h:Heap}{e:List (eE×V)}{f:List (eE×Value)}(z:e.length<=ao)(j:(a==jI)=false)(g:KV e f)(k:h.DictOf (cF P w) a f):
  cN P w K i h a (.dK e):=⟨z,j,f,g,k⟩
theorem DZ{J:Hp}{Q:Unit->Shared->Prop}(Y:A.units+16<cLine)(I:Inv X J6 σ H s)(g:KZ H a y v J)(L:RelV y u)(M:RelV v r)(h:∀N,Inv X J6 σ J N->Q () N):
  wpAny (model X.prog X.w) A (setItem (.ref a) u r) Q E s:=by
 rcases g with⟨f,k,e,p,l,t⟩|⟨f,k,b,e,p,O,m,l,t⟩
 ·subst p t;obtain⟨z,x,vs,i,B⟩:=KJ I.hok e;have C:vs.length<=ao:=by rw[<-i.length];exact z
  have D:(gU f k v).length<=ao:=by have:=lG f k v;omega
  refine wpAny_setItem_pairs (hsz:=C) (rE L) B fun T j G=>h _ ?_;have he:∃q,T.get? a=some q:=let⟨q,_,_,n,_⟩:=j;⟨q,n⟩;exact yt I (by rw[e];exact eU) G he (Gm D x (i.put k M) j)
 ·subst p t;cases(show u=Value.ref b from L);obtain⟨z,x,xs,i,B⟩:=Iz I.hok I.kIn e;have C:xs.length<=ao:=by rw[<-Paired.length i];exact z
  have D:(gU f k v).length<=ao:=by have:=lG f k v;omega
  refine wpAny_setItem_heap (hsz:=C) (ix Y) (Bn I.hok I.kIn (ir.c 8 m O) m) B fun T j G=>h _ ?_;obtain⟨q,es,ep,n,h2,h3,h4,_,h5⟩:=j;refine yt I (by rw[e];exact eU) G ⟨q,n⟩ ⟨D,x,_,(i.put k (ir.c 8 m O) m M).keeps fun c ys U=>?_,q,es,ep,n,h2,h3,h4,h5⟩;rw[am (Iq U e (fun z=>nomatch z))];exact U
end
def Ef(i:Expr):Prop:=∀ov iv,wV i false ov iv=operate [ov,iv] (mS ov iv)
theorem G1{a:bF}{w:World}{A:Around}{E:Zc}{s:Shared}{k:Env}{value slice:Expr}{p:Pos}{T id:String}{Q:Zc}
  (t:pK (.type T) "__getitem__"=pure (some (.builtin id))) (u:Ef slice)
  (h:wpAny (model a w) A (eval value k) (fun o g=>wpAny (model a w) A (eval slice k) (fun i e=>e.TypeIs o T/\wpAny (model a w) A (mS o i) Q E e) E g) E s) :
  wpAny (model a w) A (eval (.Subscript value slice p) k) Q E s:=by
 refine Subscript_ (dF h (fun o g m=>dF m (fun i e f=>?_) fun _ _ x=>x) fun _ _ x=>x);obtain⟨q,f⟩:=f;unfold subscriptTail;refine ar ?_;rw[getitemInPython_of_ne q.not_modules];refine ar (GG q t ?_);have l:wpAny (model a w) A (wV slice false o i) (fun r j=>wpAny (model a w) A (letTemporaryGo value o r >>= fun _=>pure r) Q E j) E e:=by
  rw[u o i];exact wpAny_operating (dF f (fun r j n=>ar (wpAny_letTemporaryGo (be n))) fun _ _ x=>x)
 first
  |exact be (ar l)
  |exact ar (be (ar l))
  |exact ar l
theorem z6{X:Cx}{i:Zd}{σ:St}{H:Hp}{s:Shared}{a:Addr}{y:V}{o:Option V}(I:Inv X i σ H s)(g:yR X.K H a y o):s.TypeIs (.ref a) "dict":=by
 rcases g with⟨f,k,e,_,_⟩|⟨f,k,b,e,_,_,_⟩
 ·obtain⟨_,_,j,_,h⟩:=rK I.hok e;exact h.typeIs
 ·obtain⟨_,_,xs,_,h⟩:=uB I.hok I.kIn e;exact h.typeIs
def Cm(K:Za)(td ty:TE):TE:=fun σ H Q=>td σ H fun x H1=>ty σ H1 fun y H2=>∃a v,x=.ref a/\yR K H2 a y (some v)/\Q v H2
def EN(K:Za)(ty td:TE):TE:=fun σ H Q=>ty σ H fun y H1=>td σ H1 fun x H2=>∃a o,x=.ref a/\yR K H2 a y o/\Q (.bl o.isSome) H2
def su(K:Za)(ty td:TE):TE:=fun σ H Q=>ty σ H fun y H1=>td σ H1 fun x H2=>∃a o,x=.ref a/\yR K H2 a y o/\Q (.bl (!o.isSome)) H2
def tW(td ty tv:TE):TS:=fun D σ H=>tv σ H fun v H1=>td σ H1 fun x H2=>ty σ H2 fun y H3=>∃a H4,x=.ref a/\KZ H3 a y v H4/\D.nx σ H4
section
variable{X:Cx}{o i e value:Expr}{pos pos' U1:Pos}{td ty tv:TE}
theorem xQ(m:X.A.units+16<cLine)(n:PE X o td)(hi:PE X i ty)(p:Ef i):PE X (.Subscript o i pos) (Cm X.K td ty):=by
 intro k s σ H Q I h;refine G1 PySem.F.slot_dict_getitem.lookup p (cA (n k s σ H _ I h) fun u q ⟨x,r,t,w,z⟩=>cA (hi k q σ r _ t z) fun G J f=>?_);obtain⟨y,B,l,C,a,v,ex,g,D⟩:=f;subst ex;obtain rfl:u=Value.ref a:=w;exact⟨z6 l g,D0 m l g C fun L M E j=>⟨v,B,E,j,D⟩⟩
theorem xS(k:X.A.units+16<cLine)(hi:PE X i ty)(l:PE X o td):PC X .In i o (EN X.K ty td):=by
 intro j s σ H Q I h;refine cA (hi j s σ H _ I h) fun D m ⟨y,n,p,q,r⟩=>cA (l j m σ n _ p r) fun u E f=>?_;obtain⟨x,t,v,w,a,z,ex,g,B⟩:=f;subst ex;obtain rfl:u=Value.ref a:=w;exact d_in k v g q fun G C=>⟨.bl z.isSome,t,C,rfl,B⟩
theorem qh(k:X.A.units+16<cLine)(hi:PE X i ty)(l:PE X o td):PC X .NotIn i o (su X.K ty td):=by
 intro j s σ H Q I h;refine cA (hi j s σ H _ I h) fun D m ⟨y,n,p,q,r⟩=>cA (l j m σ n _ p r) fun u E f=>?_;obtain⟨x,t,v,w,a,z,ex,g,B⟩:=f;subst ex;obtain rfl:u=Value.ref a:=w;exact HJ k v g q fun G C=>⟨.bl (!z.isSome),t,C,rfl,B⟩
theorem lZ(k:X.A.units+16<cLine)(l:PE X o td)(hi:PE X i ty)(m:PE X value tv)(n:mz value (some (.Subscript o i pos')) pos.line X.env=pure false):
  PS X (.Assign [.Subscript o i pos'] value pos) (tW td ty tv):=by
 intro f s σ H D I h;refine wpAny_Assign_Subscript (cA (m f s σ H _ I h) fun r p ⟨v,q,t,w,z⟩=>cA (l f p σ q _ t z) fun u B ⟨x,C,E,G,J⟩=>cA (hi f B σ C _ E J) fun T U j=>?_) n;obtain⟨y,Y,L,M,a,N,ex,g,O⟩:=j;subst ex;obtain rfl:u=Value.ref a:=G;exact DZ k L g M w fun s4 Q=>⟨σ,N,Q,O⟩
end
theorem Gn{P:bF}{w:World}{K:Za}{H:Hp}(h:Heap)(a:jI<h.objs.size):cN P w K H (h.push { cls:=.type "dict",data:=.dict #[] }) h.objs.size (.dK []) :=
 ⟨cf _,beq_eq_false_iff_ne.mpr (cZ (cw a)),[],.nil,Heap.DictOf.new h⟩
theorem Gk{P:bF}{w:World}{K:Za}{H:Hp}(h:Heap)(a:jI<h.objs.size):cN P w K H (h.push { cls:=.type "dict",data:=.dict #[] }) h.objs.size (.dT []) :=
 ⟨cf _,beq_eq_false_iff_ne.mpr (cZ (cw a)),[],.nil,_,#[],0,dJ _ rfl,⟨rfl,rfl,rfl⟩,rfl,rfl,j6⟩
def xA:TE:=fun _ H Q=>∀p,H p=none->Q (.ref p) (upd H p (.dK []))
def xz:TE:=fun _ H Q=>∀p,H p=none->Q (.ref p) (upd H p (.dT []))
section
variable{X:Cx}{pos:Pos}
theorem ub:PE X (.Dict [] [] pos) xA:=fun e s σ H Q I h =>
 wpAny_Dict_empty ⟨.ref s.heap.objs.size,_,I.laid (a:=s.heap.objs.size) (o:=.dK []) (t':=s.toks) (fun _ _ q=>bh _ q) (aG _) (Gn s.heap I.big),rfl,h _ (I.hok.fresh (aG _))⟩
theorem ua:PE X (.Dict [] [] pos) xz:=fun e s σ H Q I h =>
 wpAny_Dict_empty ⟨.ref s.heap.objs.size,_,I.laid (a:=s.heap.objs.size) (o:=.dT []) (t':=s.toks) (fun _ _ q=>bh _ q) (aG _) (Gk s.heap I.big),rfl,h _ (I.hok.fresh (aG _))⟩
end
def jy(kvs more:List (eE×V)):List (eE×V):=more.foldl (fun acc kv=>gU acc kv.1 kv.2) kvs
theorem KV.merge:∀{a:List (eE×V)}{i:List (eE×Value)}{f:List (eE×V)}{g:List (eE×Value)},KV a i->KV f g->KV (jy f a) (merged g i):=by
 intro a i f g r;unfold KV at r
 induction r generalizing f g with
 |nil=>intro q;exact q
 |@cons p q l qs h t j =>
  intro k;have e:KV (gU f p.1 p.2) (stored g q.1 q.2):=by
   have:=k.put p.1 h.2;rw[<-h.1];exact this
  exact j e
theorem mH:∀(e a:List (eE×V)),(jy a e).length<=a.length+e.length
 |[],a=>by show a.length<=a.length+0;omega
 |p::r,a=>by
  have f:=mH r (gU a p.1 p.2);have g:=lG a p.1 p.2;show(jy (gU a p.1 p.2) r).length<=_;rw[bP];omega
structure M2(X:Cx)(o:Expr)(m:Str)(J8:Pos)(e f:Expr)(J7:Pos):Prop where
 base:sO o m X.env (eval o X.env)=eval o X.env
 few:((backTo J7 (aB [e,f] X.env)).all (fun x=>!x.1) && (mW J7 (mV [] X.env)).all (fun x=>x.1.isSome)
  && decide (([e,f]:List Expr).length+([]:List pJ).length+(if([]:List pJ).isEmpty then 0 else 1)<30))=true
 line:(J8.endLine==J7.line)=true
 trees:backTo J7 (aB [e,f] X.env)=[(false,eval e X.env),(false,eval f X.env)]
def IsD(H:Hp)(a:Addr):Prop:=(∃kvs,Rd H a (.dK kvs))∨∃kvs,Rd H a (.dT kvs)
theorem Jw{X:Cx}{l:Zd}{σ:St}{H:Hp}{s:Shared}{a:Addr}(I:Inv X l σ H s)(d:IsD H a):
  s.TypeIs (.ref a) "dict"/\(∀b,Value.ref a=.ref b->∃f,s.heap.get? b=some f/\f.dict=none)/\(a==jI)=false:=by
 rcases d with⟨h,e⟩|⟨h,e⟩
 ·obtain⟨_,i,m,_,g⟩:=rK I.hok e;refine⟨g.typeIs,fun b q=>?_,i⟩;cases q;obtain⟨f,_,_,j,k,_⟩:=g;exact⟨f,j,k.2.1⟩
 ·obtain⟨_,i,xs,_,g⟩:=uB I.hok I.kIn e;refine⟨g.typeIs,fun b q=>?_,i⟩;cases q;obtain⟨f,_,_,j,k,_⟩:=g;exact⟨f,j,k.2.1⟩
section
variable{X:Cx}{J6:Zd}{σ:St}{H:Hp}{s:Shared}{a:Addr}{y d:V}{u r:Value}{o:Option V}{A:Around}{E:Zc}
theorem JJ{Q:Zc}(x:A.units+16<cLine)(I:Inv X J6 σ H s)(g:yR X.K H a y o)(p:RelV y u)(q:RelV d r)(h:∀t v,Inv X J6 σ H v->RelV (o.getD d) t->Q t v):
  wpAny (model X.prog X.w) A (call (.builtin "dict.get") [.ref a,u,r]) Q E s:=by
 rcases g with⟨j,k,e,m,l⟩|⟨j,k,b,e,m,B,C,l⟩
 ·subst m;obtain⟨z,n,D,f,i⟩:=rK I.hok e;refine call_meetsIn PySem.F.slot_dict_get i.typeIs PySem.F.entry_dict_get (PySem.F.args_dict_get_3 _ _ _) (meets_dict_get_default (cF X.prog X.w) a (rE p) n r) ⟨_,i.mapOf,h _ _ (I.tok _) ?_⟩;rw[l];exact(f.val k).getD q
 ·subst m;cases(show u=Value.ref b from p);obtain⟨z,n,xs,f,i⟩:=uB I.hok I.kIn e;refine call_meetsIn PySem.F.slot_dict_get i.typeIs PySem.F.entry_dict_get (PySem.F.args_dict_get_3 _ _ _) (meetsH_dict_get_default (fR X.prog X.w) a b n r) ⟨ix x,k,xs,x9 I B C,i,h _ _ (I.tok _) ?_⟩;rw[l];exact(f.val k).getD q
end
def EO(K:Za)(td ty tx:TE):TE:=fun σ H Q=>td σ H fun x H1=>∃a,x=.ref a/\IsD H1 a/\ty σ H1 fun y H2=>tx σ H2 fun z H3=>∃o,yR K H3 a y o/\Q (o.getD z) H3
section
variable{X:Cx}{o e f:Expr}{J8 J7:Pos}{td ty tx:TE}
theorem FC(n:X.A.units+16<cLine)(p:PE X o td)(q:PE X e ty)(hf:PE X f tx)(m:M2 X o "get" J8 e f J7):PE X (.Call (.Attribute o "get" J8) [e,f] [] J7) (EO X.K td ty tx):=by
 intro i s σ H Q I h;refine wpAny_Call_method m.base m.few m.line PySem.F.plainAttrs_dict PySem.F.slot_dict_get PySem.F.type_dict_get (cA (p i s σ H _ I h) fun u r j=>?_);obtain⟨x,t,l,v,a,ex,d,w⟩:=j;subst ex;obtain rfl:u=Value.ref a:=v;obtain⟨B,C,_⟩:=Jw l d;refine⟨B,C,?_⟩;rw[m.trees];refine wT rfl (Calls.evalArgs_plain (lh (cA (q i r σ t _ l w) fun Y D ⟨y,E,G,J,L⟩ =>
  lh (cA (hf i D σ E _ G L) fun fv s3 ⟨z,M,N,O,ov,g,T⟩=>Calls.spliced_nil ?_))))
 exact JJ n N g J O fun w' s4 U k=>⟨_,M,U,k,T⟩
end
end L2
namespace Att
open PySem PySem.W PySem.Calls PyProof.Rows
theorem ints_of_wellAll{P:Params}{h:Heap}:∀(e:List Int) (vs:Zf),WellAll P h vs (e.map WData.int)->tp vs e:=by
 intro e
 induction e with
 |nil =>
  intro vs w;rw[List.map_nil]at w;cases w;exact .nil
 |cons n e f =>
  intro vs w;rw[aS]at w;cases w with
  |cons a b =>
   cases a;exact .cons _ _ (f _ b)
theorem script_of{l:OpenLaw}{n:Nat}(u:l.most=some n){P:Params}{h:Heap}{args:List WData}{f:Zf}
  (g:l.row.toRowW.claim.pre args=true) (o:WellAll P h f args) :
  ∃a s e,f=[Value.ref a]/\args=[WData.list (e.map WData.int)]/\h.get? a=some { cls:=.type "list",data:=.seq s.toArray }/\tp s e/\e.length<=n:=by
 have p:WShape.hasAll [] args [.list .int]=true:=(pre_splitW g).1;have t:l.pre.holds [] { args:=args }=true:=(pre_splitW g).2;obtain⟨d,r,rfl,v,w⟩:=hasAllW_cons p;obtain rfl:=hasAllW_nil w;obtain⟨xs,rfl,x⟩:=hasW_list v;obtain⟨e,rfl⟩:=items_int x;have i:e.length<=n:=by
  unfold OpenLaw.pre at t;have k:(WTm.not (.lt (.lit (.int (n:Int))) (.len (.arg 0)))).holds [] { args:=[.list (e.map .int)] }=true:=by
   have k:=(holds_andW t).1;rw[u]at k;exact k
  have m:=condW_of k (w_not (w_lt w_lit (w_len_list (w_arg rfl))));rw[aq]at m;refine Nat.le_of_not_lt fun q=>?_;have y:(n:Int)<((e.length:Nat):Int):=by omega
  first
   | (rw[zzr1 y]at m;exact absurd m (by decide))
   | (simp at m;omega)
 cases o with
 |cons z B =>
  cases B;cases z with
  |list C j=>exact⟨_,_,e,rfl,rfl,C,ints_of_wellAll e _ j,i⟩
theorem post_true(l:OpenLaw)(args:List WData):l.row.toRowW.claim.post args (.bool true) args=true :=
 postW_of (r:=l.row.toRowW) (X:=(true==true))
  (show WShape.has [] (.bool true) .bool=true by first|rfl|decide|simp[WShape.has,WShape.arms,WShape.armsAll])
  (show(WTm.eq .res (.lit (.bool true))).value [] { args:=args,res:=some (.bool true),after:=args }=some (.bool (true==true))from w_eq_bool (w_res rfl) w_lit) rfl
theorem attach_call{l:OpenLaw}{n:Nat}{q:bF}{loose:Zb}{C:(Str->Option Value)->Heap->Prop}{D:World->Heap->Prop}{d:DefRec}
  (J:l.most=some n) (u:d.params.defaults=[])
  (call:∀(w:World) (g e:Shared) (p v:Str->Option Value) (i:Addr) (o:Obj) (x cd doc:Value) (a:Addr) (h:Zf) (s:List Int),
   Ground q loose [] C w g p v e.heap->D w e.heap ->
   e.heap.get? i=some o->o.data=.func (docDef d.name d.params d.body d.scope x cd doc)->e.heap.CodeRec cd d.name->p d.name=some (.ref i) ->
   e.heap.get? a=some { cls:=.type "list",data:=.seq h.toArray }->tp h s->s.length<=n->e.gens=#[] ->
   zzl88 (model l.prog w) k6 (.call (.ref i) ⟨[.ref a],[]⟩) (fun r t=>r=.ok (.ret (.bool true))/\OldK e.heap t.heap/\t.os=e.os/\mB t.gens) e) :
  WalkO q loose C D l.row.toRowW d [] (fun f h=>PySem.call f h):=by
 intro w g e p v G Y i o x cd doc L kV M N y E z O args H as j I Q B T;obtain rfl:L=.none:=Dflts.none E u;obtain rfl:kV=.none:=Dflts.noKw E;obtain⟨a,h,s,rfl,rfl,k,hints,m⟩:=script_of J j B;refine enter_call (pN (call w g e p v i o x cd doc a h s G Y M (fd_plain N) y z k hints m O) fun r t U=>?_);obtain⟨rfl,h2,h3,h4⟩:=U;exact⟨.inl ⟨.bool true,.bool true,[],rfl,fun _=>rfl,.bool true,post_true l _,fun _=>⟨List.Pairwise.nil,fun _ hm=>(nomatch hm)⟩⟩,h2,h3,h4⟩
end Att
namespace L2
open PySem PySem.Spec PyProof.Rows
theorem vE:∀{a:Zf}{e:List Int},tp a e->bg (e.map V.int) a
 |_,_,.nil=>.nil
 |_,_,.cons n t h=>.cons ⟨t,rfl⟩ (vE h)
def HS(H:Hp):Prop:=∀b,H b=none∨∃o xs,H b=some (.frz o (.lst xs))
theorem FX{P:bF}{w:World}{K:Za}{B U:Str->Option Value}{CX:En}{k:Nat}{Y a:Addr}{fd:fe}{x:Str}{sp:Sp}{f:Shared}{t:Zf}{C:List Int}
  (KX:K.In f.heap) (D:f.heap.Ns cb B) (i:f.heap.Ns builtinsNs U) (ab:∀x:Str,x≠"__name__"->U x=je x) (E:f.heap.NoLimit) (hg:f.gens=#[])
  (T:f.heap.get? a=some { cls:=.type "list",data:=.seq t.toArray }) (hi:tp t C) (hl:C.length<=ao) (hr:dQ k k6)
  (F:∀base:Heap,K.In base->base.Ns cb B->iX P w K B base CX k Y fd [x] sp) (y:∀(s:Shared) (u:Value),mZ s fd ⟨[u],[]⟩ [(x,u)])
  (ai:∀H:Hp,HS H->aA K H a (C.map V.int)->sp [.ref a] H (fun v _=>v=.bl true) fun _ _ _=>False)
  (aj:∀H e j,CX [] H f (fun _ _ _=>False) e j->False) :
  zzl88 (model P w) k6 (.call (.ref Y) ⟨[.ref a],[]⟩) (fun r j=>r=.ok (.ret (.bool true))/\OldK f.heap j.heap/\j.os=f.os/\mB j.gens) f:=by
 have rv:=vE hi;have G:=hi.length;have p:∀H:Hp,HS H->aA K H a (C.map V.int)->kO P w K H f.heap->(∀b,H b≠none->b=a)->(H a≠none->K.lookup a=none) ->
   zzl88 (model P w) k6 (.call (.ref Y) ⟨[.ref a],[]⟩) (fun r j=>r=.ok (.ret (.bool true))/\OldK f.heap j.heap/\j.os=f.os/\mB j.gens) f:=by
  intro H hO hS I hA hK;have g:∀{b:Addr}{o:Obj},f.heap.get? b=some o->H b=none->(yd f.heap H).get? b=some o:=fun e n=>Gb e n;have ak:∀{b:Addr}{o:Obj}{J:Array DictEntry}{L:Nat},f.heap.get? b=some o->o.data=.dict J L->H b=none:=fun{b o J L} e d=>by
   cases q:H b with
   |none=>rfl
   |some u =>
    have e':b=a:=hA b (by rw[q];simp);subst e';rw[T]at e;cases e;have d':Data.seq t.toArray _=Data.dict J L:=d;cases d'
  have l:∀{b:Addr}{m:Str->Option Value},f.heap.Ns b m->(yd f.heap H).Ns b m:=fun{b m} ⟨o,J,L,e,d,r⟩=>⟨o,J,L,g e (ak e d),d,r⟩;have M:K.In (yd f.heap H):=fun b o e=>g (KX b o e) (by
   cases q:H b with
   |none=>rfl
   |some u =>
    have e':b=a:=hA b (by rw[q];simp);subst e';rw[hK (by rw[q];simp)]at e;cases e)
  have hM:Mod K B (yd f.heap H):=⟨M,l D,⟨U,l i,ab⟩,let⟨mc,h1,h2⟩:=E;⟨mc,l h1,h2⟩⟩;have e0:BR P w K B (yd f.heap H) k6 [] f H:=⟨rfl,hM,fun b o e=>Hr e,Nat.le_of_eq (DV _ _),trivial,fun b i=>absurd (show b∈([]:Ze)from i) (by simp),I,.of_eq hg⟩;refine pN ((F _ M (l D)).run k6 [] f H ⟨[.ref a],[]⟩ [.ref a] [.ref a] _ _ hr e0 (y f (.ref a)) (.cons rfl .nil) (ai H hO hS)) fun r j h=>?_;cases r with
  |error e=>exact(aj H e j h).elim
  |ok fl =>
   cases fl with
   |next=>exact df h
   |brk=>exact df h
   |cont=>exact df h
   |ret u =>
    obtain⟨v,H',os,N,un,O,r',q⟩:=h;have q':v=.bl true:=q;subst q';obtain rfl:u=Value.bool true:=r';refine⟨rfl,OldK.of_keep fun b o e=>?_,os,N⟩;cases q:H b with
    |none=>exact un.keep b o e q (by intro z;exact absurd (show b∈([]:Ze)from z) (by simp)) (by simp)
    |some u =>
     rcases hO b with z|⟨ob,xs,z⟩
     ·rw[q]at z;cases z
     ·have z2:=un.frzs b ob _ z;obtain⟨e1,_⟩:=I b _ z;obtain⟨e2,_⟩:=O b _ z2;rw[e]at e1;cases e1;exact e2
 cases hk:K.lookup a with
 |some o =>
  have e:=KX a o hk;rw[T]at e;cases e;refine p (fun _=>none) (fun _=>.inl rfl) (.inr ⟨_,t.toArray,_,hk,rfl,rfl,rfl,by rw[b_,G];exact hl,by simpa using rv⟩) (fun b u z=>by have Q:(none:Option HO)=some u:=z;cases Q) (fun b z=>absurd rfl z) fun z=>absurd rfl z
 |none =>
  refine p (fun b=>if b=a then some (.frz { cls:=.type "list",data:=.seq t.toArray } (.lst (C.map V.int)))else none) (fun b=>?_) (.inl (.inr ⟨{ cls:=.type "list",data:=.seq t.toArray },if_pos rfl⟩)) (fun b u z=>?_) (fun b z=>?_) fun _=>hk
  ·by_cases i:b=a
   ·exact .inr ⟨_,_,if_pos i⟩
   ·exact .inl (if_neg i)
  ·by_cases i:b=a
   ·have Q:=(if_pos i).symm.trans z;cases Q;subst i;exact⟨T,by rw[aq];exact hl,t,_,rv,T⟩
   ·have Q:=(if_neg i).symm.trans z;cases Q
  ·by_cases i:b=a
   ·exact i
   ·exact absurd (if_neg i) z
end L2
namespace L2
open PySem PySem.Spec PyProof.Rows
theorem GS{l:PySem.W.OpenLaw}{n k:Nat}{q:bF}{loose:Zb}{O:(Str->Option Value)->Heap->Prop}{J:World->Heap->Prop}{d:DefRec}{K:Params->Za}{CX:World->En}{sp:World->Sp}{x:Str}
  (Q:l.most=some n) (y:n<=ao) (z:d.params.defaults=[]) (U:dQ k k6)
  (hY:∀(w:World) (h:Heap),J w h->(K w.params).In h)
  (F:∀(w:World) (j:Str->Option Value) (r:Addr) (h:Heap),(K w.params).In h->h.Ns cb j->j d.name=some (.ref r) ->
   ∃B:fe,(∀(s:Shared) (u:Value),mZ s B ⟨[u],[]⟩ [(x,u)]) /\
    ∀base:Heap,(K w.params).In base->base.Ns cb j->iX l.prog w (K w.params) j base (CX w) k r B [x] (sp w))
  (C:∀(w:World) (H:Hp) (a:Addr) (t:List Int),t.length<=n->HS H->aA (K w.params) H a (t.map V.int)->sp w [.ref a] H (fun v _=>v=.bl true) fun _ _ _=>False)
  (D:∀(w:World) (H:Hp) (s:Shared) (e:Value) (E:Shared),CX w [] H s (fun _ _ _=>False) e E->False) :
  PySem.W.WalkO q loose O J l.row.toRowW d [] (fun f L=>PySem.call f L):=by
 refine Att.attach_call Q z fun w M m j mb r o pm cd doc a L t G Y ho hd ab I p hints i hg=>?_;have N:=hY w _ Y;obtain⟨B,hb,hF⟩:=F w j r _ N G.T.g I;exact FX N G.T.g G.T.b G.T.builtins G.T.nolimit hg p hints (aP i y) U hF hb (fun H hO hS=>C w H a t i hO hS) fun H e E=>D w H m e E
theorem walk_ofK{l:PySem.W.OpenLaw}{n k:Nat}{q:bF}{loose:Zb}{B:(Str->Option Value)->Heap->Prop}{t:World->Heap->Prop}{d:DefRec}{K:Params->Za}{CX:En}{sp:Za->Sp}{x:Str}
  (C:l.most=some n) (j:n<=ao) (m:d.params.defaults=[]) (D:dQ k k6)
  (E:∀(w:World) (h:Heap),t w h->(K w.params).In h)
  (F:∀(w:World) (g:Str->Option Value) (y:Addr) (h:Heap),(K w.params).In h->h.Ns cb g->g d.name=some (.ref y) ->
   ∃z:fe,(∀(s:Shared) (u:Value),mZ s z ⟨[u],[]⟩ [(x,u)]) /\
    ∀base:Heap,(K w.params).In base->base.Ns cb g->iX l.prog w (K w.params) g base CX k y z [x] (sp (K w.params)))
  (o:∀(K:Za) (H:Hp) (a:Addr) (i:List Int),i.length<=n->HS H->aA K H a (i.map V.int)->sp K [.ref a] H (fun v _=>v=.bl true) fun _ _ _=>False)
  (p:∀(H:Hp) (s:Shared) (e:Value) (r:Shared),CX [] H s (fun _ _ _=>False) e r->False) :
  PySem.W.WalkO q loose B t l.row.toRowW d [] (fun f G=>PySem.call f G) :=
 GS (K:=K) (CX:=fun _=>CX) (sp:=fun w=>sp (K w.params)) C j m D E F (fun w H a i I J L=>o (K w.params) H a i I J L) fun _ H s e r=>p H s e r
end L2
namespace L2
open PySem PySem.Spec PyProof.Rows
def kB(s:Stmt)(j:Nat):Stmt:=match s with
 |.ClassDef _ _ _ body _ _ _ _ _ _ _=>body.getD j (.Pass ⟨0,0,0,0⟩)
 |_=>.Pass ⟨0,0,0,0⟩
def iq(s:Stmt):Arguments:=match s with
 |.FunctionDef _ a _ _ _ _ _ _ _ _=>a
 |_=>{ posonlyargs:=[],args:=[],vararg:=none,kwonlyargs:=[],kw_defaults:=[],kwarg:=none,defaults:=[] }
def fD(s:Stmt):List Stmt:=match s with
 |.FunctionDef _ _ b _ _ _ _ _ _ _=>b
 |_=>[]
def bA(s:Stmt):Scope:=match s with
 |.FunctionDef _ _ _ _ _ _ sc _ _ _=>sc
 |_=>{ kind:=.function,names:=[],isGenerator:=false,isCoroutine:=false }
abbrev CX0:En:=fun _ _ _ _ _ _=>False
abbrev E0:XK:=fun _ _ _=>False
abbrev aW(sp:Sp)(a:TA):TE:=rm sp [] E0 a
theorem FF{X:Cx}:qI CX0 X E0:=fun _ _ _ _ _ _ _ h=>h.elim
structure IL(K:Za)(x qual:Str)(st:Stmt)(f:Addr)(fd:fe):Prop where
 ex:∃(oc:Value) (od:Option Addr) (kV doc pm:Value) (an:Option Addr) (cdv ct:Value) (osl:Array (Option Value)),
  fd=iG x qual (iq st) (fD st) (bA st) .none kV doc pm an cdv ct/\K.lookup f=some ⟨oc,od,.func fd,osl⟩/\mU K cdv qual=true
 kp:eF K (.ref f)=true
section
variable{P:bF}{w:World}{K:Za}{mg:Str->Option Value}{base:Heap}
theorem IL.ok{x a:Str}{st:Stmt}{f:Addr}{o:fe}{N j:Zb}{k:Nat}{l:Sp}(F:IL K x a st f o)(S:gK N j (bA st))(len:∀g H Q E,l g H Q E->g.length=j.length)
  (i:∀(e:Value) (A:Around) (outer:List Env) (s:Shared) (H:Hp) (g:List V) (Q:VK) (E:XK),dQ k (A.deeper (envOfC a (bA st) s.heap.objs.size f e))->l g H Q E ->
   ∃t,yJ (uD CX0 P w K mg base N a (bA st) f e A outer s H E).nox (fD st) t/\t (bJ Q) (start N g) H):iX P w K mg base CX0 (k+1) f o j l:=by
 obtain⟨u,v,kV,doc,y,z,e,B,p,rfl,lk,m⟩:=F.ex;refine Ix lk m S len fun A outer s H g Q E r n=>?_;obtain⟨t,h,q⟩:=i e A outer s H g Q E r n;exact⟨t,h.nox,q⟩
theorem IL.binds{x a:Str}{st:Stmt}{f:Addr}{l:fe}{ps:Zb}(F:IL K x a st f l)
  (h:∀(kV doc g:Value) (i:Option Addr) (e j:Value) (k:Zf),k.length=ps.length->bindArgs (iG x a (iq st) (fD st) (bA st) .none kV doc g i e j) ⟨k,[]⟩=pure (ps.zip k)):Binds K l ps []:=by
 obtain⟨o,p,kV,doc,g,i,e,j,m,rfl,lk,n⟩:=F.ex;exact .all (h kV doc g i e j)
theorem Gf{x a:Str}{st:Stmt}{f:Addr}{m:Value}{n h:Option Addr}{g:Array (Option Value)}{kV doc i e j:Value}(l:K.lookup f=some ⟨m,n,.func (iG x a (iq st) (fD st) (bA st) .none kV doc i h e j),g⟩)
  (c:mU K e a=true) (k:eF K (.ref f)=true):IL K x a st f (iG x a (iq st) (fD st) (bA st) .none kV doc i h e j):=⟨⟨m,n,kV,doc,i,h,e,j,g,rfl,l,c⟩,k⟩
end
theorem v9{A:Around}{k:Nat}(a:dQ k A):A.units+16<cLine:=wQ (Nat.add_le_add_left (by decide:16<=64) _) a.units
theorem aU{n:Nat}(h:n<=1000):n<ao:=wQ h (by decide)
section
variable{X:Cx}
theorem pv(i:Nat){x:Str}{a:Pos}(f:X.N[i]?=some x:=by rfl)(g:Vis X.env.scope x:=by first|exact Or.inl rfl|exact Or.inr (Or.inl rfl)|exact Or.inr (Or.inr rfl))(h:(x==("__debug__":Str))=false:=by decide)
  (e:(x==("__classdict__":Str))=false:=by decide):PE X (.Name x a) (ml i):=Jo f g h e
end
theorem bC{A B:Prop}(h:B):if false=true then A else B:=by
 rw[if_neg jG];exact h
theorem bI{A B:Prop}(h:A):if true=true then A else B:=by
 rw[if_pos rfl];exact h
theorem dz{c A B:Prop}[Decidable c](a:c->A)(e:¬c->B):if c then A else B:=by
 by_cases h:c
 ·rw[if_pos h];exact a h
 ·rw[if_neg h];exact e h
def ae(H H':Hp):Prop:=∀b o,H b=some o->H' b=some o
theorem ae.refl(H:Hp):ae H H:=fun _ _ h=>h
theorem ae.trans{H e f:Hp}(a:ae H e)(b:ae e f):ae H f:=fun c o h=>b c o (a c o h)
theorem ae.free{H a:Hp}(e:ae H a){l:Addr}(h:a l=Option.none):H l=Option.none:=by
 cases q:H l with
 |none=>rfl
 |some o =>
  rw[e l o q]at h;cases h
theorem ae.seq{K:Za}{H f:Hp}{a:Addr}{xs:List V}(e:ae H f)(h:aA K H a xs):aA K f a xs:=by
 rcases h with(h|⟨o,h⟩)|h
 ·exact .inl (.inl (e _ _ h))
 ·exact .inl (.inr ⟨o,e _ _ h⟩)
 ·exact .inr h
section
variable{prog:bF}{w:World}{A:Around}{R:Result->Shared->Prop}{s:Shared}
abbrev XF:Value->Shared->Prop:=fun _ _=>False
abbrev Bt(ifs:List Expr)(env:Env):Sem Bool:=forIn ifs true fun c r=>if r=true then do let ok <- isTrue c env (eval c env);pure (wP ok)else pure (wP r)
theorem yv{t target j:Expr}{u:List Expr}{scope:Scope}{B:Pos}{it y:Value}{a:Env}(I:Nat->Shared->Prop)
  (turn:∀n s,I n s->wpAny (model prog w) A (pyNext it) (fun r e=>match r with
   |none=>R (.ok .next) e
   |some v=>wpAny (model prog w) A (B1 target it v) (fun _ f=>wpAny (model prog w) A (assign target a v) (fun _ k =>
     wpAny (model prog w) A (Bt u a) (fun ok g =>
      if ok=true then wpAny (model prog w) A (eval t a) (fun x l =>
       wpAny (model prog w) A (call (.builtin "list.append") [y,x]) (fun _ o=>∃m,m<n/\I m o) XF l) XF g
      else ∃m,m<n/\I m g) XF k) XF f) XF e) XF s)
  (n:Nat) (h:I n s):zzl88 (model prog w) A (.compLoop (.ListComp t [⟨target,j,u,0⟩] scope B) 0 it y a) R s:=by
 refine codeAny_loop rfl I (fun n s G=>?_) n h;show wpAny _ A ((compTurn (.ListComp t [⟨target,j,u,0⟩] scope B) 0 it y a).onRaise (fun x=>do j5 x a;theTreesLotGoes x)) _ _ s
 refine wpAny_noted ?_;rw[compTurn_list];refine ar (q_ (ar (dF (turn n s G) (fun r e p=>?_) fun _ _ i=>i.elim)));cases r with
 |none=>exact be p
 |some v =>
  refine ar (dF p (fun _ f z=>?_) fun _ _ i=>i.elim);refine ar (dF z (fun _ k C=>ar (dF C (fun ok g q=>?_) fun _ _ i=>i.elim)) fun _ _ i=>i.elim);cases ok with
  |false=>exact be ⟨rfl,q⟩
  |true =>
   exact ar (ar (dF q (fun x l D=>ar (dF D (fun _ o E=>be (be ⟨rfl,E⟩)) fun _ _ i=>i.elim)) fun _ _ i=>i.elim))
end
theorem nC{env:Env}:∀(names:List (Str×gm)) (a:List (Str×Addr)),(∀y∈names,y.2=.free->∃c,env.cells.lookup y.1=some c)->(∀x c,a.lookup x=some c->env.cells.lookup x=some c) ->
  ∃f:List (Str×Addr),(forIn names a fun(x:Str×gm) (r:List (Str×Addr))=>if(x.2==kZ)=true then(cellOf env x.1 >>= fun c=>(pure (wP ((x.1,c)::r)):Sem (ForInStep (List (Str×Addr)))))else pure (wP r))=pure f /\
   (∀x c,f.lookup x=some c->env.cells.lookup x=some c)/\(∀x,(a.lookup x).isSome=true->(f.lookup x).isSome=true)/\∀y∈names,y.2=.free->(f.lookup y.1).isSome=true
 |[],a,_,m=>⟨a,rfl,m,fun _ h=>h,fun _ h=>nomatch h⟩
 | (n,k)::r,a,has,m=>by
  have t:∀y∈r,y.2=.free->∃c,env.cells.lookup y.1=some c:=fun y hy=>has y (bQ _ hy);by_cases p:k=.free
  ·subst p;obtain⟨c,u⟩:=has (n,.free) bR rfl;obtain⟨f,e,q,o,s⟩:=nC r ((n,c)::a) t (fun x d l=>by
    rw[hU]at l;cases hx:x==n with
    |true =>
     rw[hx]at l;have:x=n:=by simpa using hx
     subst this;cases l;exact u
    |false=>rw[hx]at l;exact m x d l)
   have g:(((n,c)::a).lookup n).isSome=true:=by rw[hU,beq_self_eq_true];rfl
   have i:∀x,(a.lookup x).isSome=true->(((n,c)::a).lookup x).isSome=true:=fun x hx=>by
    rw[hU];cases x==n with
    |true=>rfl
    |false=>exact hx
   refine⟨f,?_,q,fun x hx=>o x (i x hx),fun y hy hf=>?_⟩
   ·rw[tj];have j:cellOf env n=pure c:=by unfold cellOf;rw[u]
    simp only[beq_self_eq_true,if_true,j];exact e
   ·rcases bw.mp hy with rfl|hy
    ·exact o _ g
    ·exact s y hy hf
  ·obtain⟨f,e,q,o,s⟩:=nC r a t m;refine⟨f,?_,q,o,fun y hy hf=>?_⟩
   ·rw[tj];have v:(k==kZ)=false:=by simpa using p
    simp only[v,tf,if_false];exact e
   ·rcases bw.mp hy with rfl|hy
    ·exact absurd hf p
    ·exact s y hy hf
theorem uJ{env:Env}{scope:Scope}(has:∀y∈scope.names,y.2=.free->∃c,env.cells.lookup y.1=some c):
  ∃a:List (Str×Addr),closureFor scope env=pure a/\(∀x c,a.lookup x=some c->env.cells.lookup x=some c)/\∀y∈scope.names,y.2=.free->(a.lookup y.1).isSome=true:=by
 obtain⟨a,e,f,_,g⟩:=nC (env:=env) scope.names [] has (fun _ _ h=>nomatch h);refine⟨a,?_,f,g⟩;unfold closureFor
 first
  |exact e
  | (simp only[bind_pure];exact e)
  | (rw[show(forIn scope.names [] _:Sem (List (Str×Addr)))=pure a from e];rfl)
def dY(X:Cx)(N:Zb)(scope:Scope)(C:Addr)(cl:List (Str×Addr))(s₀:Shared)(H₀:Hp)(ex:Ze)(pn:Zd):Cx where
 prog:=X.prog
 w:=X.w
 K:=X.K
 mg:=X.mg
 base:=X.base
 A:=X.A
 N:=N
 s₀:=s₀
 H₀:=H₀
 env:=compEnvC scope cl C X.env
 outer:=X.stack
 stack:=X.stack
 ex:=ex
 fn:=fun _=>false
 calm:=X.calm
 pn:=pn
 xe:=XF
def mh(sc scope:Scope)(k:Nat)(N XN:Zb)(fi:List Nat):Bool :=
 decide (scope.kind=.function) &&
 (scope.names.all fun y=>decide (y.2≠.cell) && (decide (y.2≠.local) || decide (scope.names.lookup y.1=some .local)) && (decide (y.2≠.free) || decide (sc.names.lookup y.1=some .cell) || decide (sc.names.lookup y.1=some .free))) &&
 decide (N.length=k+fi.length) &&
 ((nV fi.length).all fun j=>match fi[j]? with
  |some i=>match N[k+j]?,XN[i]? with
   |some x,some y=>decide (x=y) && decide (scope.names.lookup x=some .free)
   |_,_=>false
  |none=>false)
structure nJ(sc scope:Scope)(k:Nat)(N XN:Zb)(fi:List Nat):Prop where
 kind:scope.kind=.function
 cell:∀y∈scope.names,y.2≠.cell
 nm:∀y∈scope.names,y.2=.local->scope.names.lookup y.1=some .local
 fr:∀y∈scope.names,y.2=.free->sc.names.lookup y.1=some .cell∨sc.names.lookup y.1=some .free
 len:N.length=k+fi.length
 sl:∀j i,fi[j]?=some i->∃x,N[k+j]?=some x/\XN[i]?=some x/\scope.names.lookup x=some .free
theorem nJ.of{sc scope:Scope}{k:Nat}{N g:Zb}{l:List Nat}(h:mh sc scope k N g l=true):nJ sc scope k N g l:=by
 unfold mh at h;simp only[iF,List.all_eq_true,Bool.or_eq_true,decide_eq_true_eq]at h;obtain⟨⟨⟨n,m⟩,o⟩,p⟩:=h;refine⟨n,fun y f=>(m y f).1.1,fun y f e=>((m y f).1.2).resolve_left fun z=>z e,fun y f e=>?_,o,fun j i e=>?_⟩
 ·rcases(m y f).2 with(z|z)|z
  ·exact absurd e z
  ·exact .inl z
  ·exact .inr z
 ·have r:j<l.length:=(dg.mp e).1;have q:=p j (List.mem_range.mpr r);rw[e]at q;dsimp only at q;cases a:N[k+j]? with
  |none=>rw[a]at q;cases q
  |some x =>
   cases b:g[i]? with
   |none=>rw[a,b]at q;cases q
   |some y =>
    rw[a,b]at q;simp only[iF,decide_eq_true_eq]at q;exact⟨x,rfl,by rw[q.1],q.2⟩
theorem ig{a:Env}:∀{names:List (Str×gm)}{x:Str},names.lookup x=some .free ->
  (names.map fun(n,k)=>if(k==kZ && a.scope.kind==.function && a.kindOf n==some .cell)then(n,gm.cell)else(n,k)).lookup x=some .cell ∨
  (names.map fun(n,k)=>if(k==kZ && a.scope.kind==.function && a.kindOf n==some .cell)then(n,gm.cell)else(n,k)).lookup x=some .free
 |[],_,h=>by simp at h
 | (n,k)::r,x,h=>by
  have f:=@ig a r x;simp only[aS];cases hx:x==n with
  |true =>
   simp only[hU,hx]at h;cases h;by_cases e:(kZ==kZ && a.scope.kind==.function && a.kindOf n==some .cell)=true
   ·left;rw[if_pos e];simp[hU,hx]
   ·right;rw[if_neg e];simp[hU,hx]
  |false =>
   simp only[hU,hx]at h;by_cases e:(k==kZ && a.scope.kind==.function && a.kindOf n==some .cell)=true
   ·rw[if_pos e];simp only[hU,hx];exact f h
   ·rw[if_neg e];simp only[hU,hx];exact f h
def eB(k:Nat)(fi:List Nat)(σ:St):St:=lf k none++fi.map fun i=>(σ[i]?).join
theorem BC(k:Nat)(a:List Nat)(σ:St):(eB k a σ).length=k+a.length:=by simp[eB]
theorem uI{k:Nat}{f:List Nat}{σ:St}{i:Nat}{v:V}(h:(eB k f σ)[i]?=some (some v)):∃j t,i=k+j/\f[j]?=some t/\σ[t]?=some (some v):=by
 unfold eB at h;by_cases hi:i<k
 ·rw[k_ (by simpa using hi),List.getElem?_replicate_of_lt hi]at h;cases h
 ·rw[pL (by simp;omega),wW,bD]at h;refine⟨i-k,?_⟩;cases e:f[i-k]? with
  |none=>rw[e]at h;cases h
  |some t =>
   rw[e]at h;simp only[tq]at h;refine⟨t,by omega,rfl,?_⟩;have a:=d4 h;cases g:σ[t]? with
   |none=>rw[g]at a;cases a
   |some o=>rw[g]at a;simp only[Option.join]at a;first|(rw[a])|(subst a;rfl)|(simpa using a)
def Ae(k:Nat)(g:TG):Prop:=∀x σ H Q,g x σ H Q->g x σ H fun σ2 H2=>Q σ2 H2/\σ2.length=σ.length/\∀i,k<=i->σ2[i]?=σ[i]?
def C7(k:Nat)(g:yV):Prop:=∀x σ H Q,g x σ H Q->g x σ H fun σ2 H2=>Q σ2 H2/\σ2.length=σ.length/\∀i,k<=i->σ2[i]?=σ[i]?
theorem bY{k i:Nat}(h:i<k):Ae k (d_ i):=fun x σ H Q q=>⟨q,by simp,fun j a=>by rw[y4 (by omega)]⟩
theorem FH{k:Nat}:C7 k io:=fun x σ H Q ⟨e,q⟩=>⟨e,q,rfl,fun _ _=>rfl⟩
def Gy(g:TG):Prop:=∀x σ H Q Q',(∀σ2 H2,Q σ2 H2->Q' σ2 H2)->g x σ H Q->g x σ H Q'
def yO(g:yV):Prop:=∀x σ H Q Q',(∀σ2 H2,Q σ2 H2->Q' σ2 H2)->g x σ H Q->g x σ H Q'
theorem qm{i:Nat}:Gy (d_ i):=fun _ _ _ _ _ f q=>f _ _ q
theorem v4:yO io:=fun _ _ _ _ _ f ⟨e,q⟩=>⟨e,f _ _ q⟩
theorem Bf{g:TG}{u:yV}(a:Gy g)(h:yO u):yO (bt g u):=fun _ _ _ _ _ f ⟨v,r,e,q⟩=>⟨v,r,e,a _ _ _ _ _ (fun _ _ q=>h _ _ _ _ _ f q) q⟩
theorem vY{k:Nat}{g:TG}{u:yV}(a:Ae k g)(f:Gy g)(h:C7 k u)(j:yO u):C7 k (bt g u):=fun x σ H Q ⟨v,r,e,q⟩ =>
 ⟨v,r,e,f _ _ _ _ _ (fun σ2 p ⟨q,l,s⟩=>j _ _ _ _ _ (fun σ3 t ⟨m,n,o⟩=>⟨m,n.trans l,fun i hi=>(o i hi).trans (s i hi)⟩) (h _ _ _ _ q)) (a _ _ _ _ q)⟩
theorem Hn{K:Za}{k n:Nat}{t:yV}(h:C7 k t):Ae k (iT K n t):=fun x σ H Q ⟨a,xs,e,f,g,q⟩=>⟨a,xs,e,f,g,h _ _ _ _ q⟩
def IJ(X:Cx)(ifs:List Expr)(t:TT):Prop :=
 ∀(J6:Zd) (s:Shared) (σ:St) (H:Hp) (Q:Bool->Hp->Prop),Inv X J6 σ H s->t σ H Q->wpAny (model X.prog X.w) X.A (Bt ifs X.env) (TP X J6 σ Q) X.xe s
def jx:TT:=fun _ H Q=>Q true H
theorem cW{X:Cx}:IJ X [] jx:=fun a s σ H Q I h=>be ⟨H,I,h⟩
theorem sE{X:Cx}{c:Expr}{t:TT}(h:PT X c t):IJ X [c] t:=by
 intro a s σ H Q I e;unfold Bt;rw[tj];simp only[if_true];refine ar (ar (cA (h a s σ H Q I e) fun b f q=>be ?_));exact be q
def dR(k:Nat)(fi:List Nat)(wi:TI)(g:TG)(tc:TT)(te:TE):TE:=fun σ H Q=>wi σ H fun J H1=>∀l,H1 l=none->∃W:Nat->Nat->List V->Hp->Prop,(∃m,W 0 m [] (upd H1 l (.lst [])))/\∀i m vs H2,W i m vs H2->H2 l=some (.lst vs) /\
 ((J.stop i H2/\Q (.ref l) H2)∨(J.go i H2/\∀x H3,J.yld i H2 x H3->g x (eB k fi σ) H3 fun σ2 H4=>tc σ2 H4 fun b H5 =>
  if b=true then te σ2 H5 fun v H6=>H6 l=some (.lst vs)/\vs.length<ao/\∃m',m'<m/\W (i+1) m' (vs++[v]) (upd H6 l (.lst (vs++[v])))else ∃m',m'<m/\W (i+1) m' vs H5))
section
variable{X:Cx}{J6:Zd}{σ:St}
theorem HP{k:Nat}{N:Zb}{scope:Scope}{J:List Nat}{H:Hp}{s:Shared}{u:List (Str×Addr)}{v:Ze}(S:nJ X.env.scope scope k N X.N J)(I:Inv X J6 σ H s)
  (i:∀x c,u.lookup x=some c->X.env.cells.lookup x=some c) (w:∀y∈scope.names,y.2=.free->(u.lookup y.1).isSome=true) (hf:∀b∈v,lN X J6 H b) (B:∀b∈v,b<s.heap.objs.size) :
  (dY X N scope s.heap.objs.size u s H v (X.pn++J6)).Ok where
 mod:=I.ok.mod
 kind:=S.kind
 glob:=I.ok.glob
 blt:=I.ok.blt
 above:=aG _
 inj:=fun x y c L M=>I.ok.inj x y c (i x c L) (i y c M)
 has:=fun x h=>by
  have C:∃y∈scope.names,y.1=x/\y.2=.free:=by
   have h':(relabel scope X.env).names.lookup x=some .cell∨(relabel scope X.env).names.lookup x=some .free:=h;have m:∀(l:List (Str×gm)) (f:gm),l.lookup x=some f->(x,f)∈l:=by
    intro l
    induction l with
    |nil=>intro f e;cases e
    |cons a r O =>
     intro f e;obtain⟨n,D⟩:=a;rw[hU]at e;cases hx:x==n with
     |true =>
      rw[hx]at e;have:x=n:=by simpa using hx
      subst this;cases e;exact bR
     |false=>rw[hx]at e;exact bQ _ (O f e)
   have g:∀f,(x,f)∈(relabel scope X.env).names->f=.cell∨f=.free->∃y∈scope.names,y.1=x/\y.2=.free:=by
    intro f Q E;obtain⟨⟨n,D⟩,p,e⟩:=aR.mp Q;dsimp only at e;by_cases t:(D==kZ && X.env.scope.kind==.function && X.env.kindOf n==some .cell)=true
    ·have G:D=.free:=by
      simp only[iF]at t;simpa using t.1.1
     rw[if_pos t]at e;cases e;exact⟨_,p,rfl,G⟩
    ·rw[if_neg t]at e;cases e;rcases E with rfl|rfl
     ·exact absurd rfl (S.cell _ p)
     ·exact⟨_,p,rfl,rfl⟩
   rcases h' with h'|h'
   ·exact g _ (m _ _ h') (.inl rfl)
   ·exact g _ (m _ _ h') (.inr rfl)
  obtain⟨y,p,rfl,E⟩:=C;exact wX.mp (w y p E)
 cab:=fun x c h=>by cases h
 hd:=I.ok.hd
 frames:=I.ok.frames
 stk:=.inl rfl
 exf:=fun b j=>⟨cw (B b j),fun x c e=>(hf b j).2.2.2.2.1 x c (i x c e)⟩
 bs:=I.bs
 bsz:=aP I.ok.bsz I.sz
 noex:=fun b o e j=>by
  rcases(hf b j).2.2.2.1 with z|z
  ·exact I.ok.noex b o e z
  ·exact absurd (ft (aQ (I.ok.bs b o e).1) z) (mC _)
 exfs:=fun b j z=>by
  obtain⟨_,T,U,_⟩:=hf b j;rcases bw.mp (I.stkSub b z)with q|q
  ·exact T q
  ·exact U q
 funs:=I.stack
 frf:=I.stkFree
theorem Gr{k:Nat}{N:Zb}{scope:Scope}{Y:List Nat}{H:Hp}{s:Shared}{J:List (Str×Addr)}{L:Ze}{f:Heap}{t':Nat}{m:Str->Option Value}(S:nJ X.env.scope scope k N X.N Y)(I:Inv X J6 σ H s)
  (h:∀x c,J.lookup x=some c->X.env.cells.lookup x=some c) (C:∀y∈scope.names,y.2=.free->(J.lookup y.1).isSome=true) (hf:∀b∈L,lN X J6 H b) (M:∀b∈L,b<s.heap.objs.size)
  (hn:f.Ns s.heap.objs.size m) (g:∀b o,s.heap.get? b=some o->f.get? b=some o) :
  Inv (dY X N scope s.heap.objs.size J s H L (X.pn++J6)) [] (eB k Y σ) H { s with heap:=f,toks:=t' }:=by
 have B:∀(l:List (Str×gm)) (x:Str) (D:gm),l.lookup x=some D->(x,D)∈l:=by
  intro l
  induction l with
  |nil=>intro x D e;cases e
  |cons a r ih =>
   intro x D e;obtain⟨n,k'⟩:=a;rw[hU]at e;cases hx:x==n with
   |true =>
    rw[hx]at e;have:x=n:=by simpa using hx
    subst this;cases e;exact bR
   |false=>rw[hx]at e;exact bQ _ (ih x D e)
 refine⟨HP S I h C hf M,rfl,I.bare,Un.kept g,⟨m,hn,fun i x v e1 e2 e3=>?_⟩,fun x c e=>?_,I.hok.fresh (aG _),fun x c e=>I.freeC x c (h x c e),fun p hp=>?_,I.hok.kept g,?_⟩
 ·obtain⟨j,t,rfl,ht,hv⟩:=uI e2;obtain⟨y,hy,O,E⟩:=S.sl j t ht;have G:N[k+j]?=some x:=e1;rw[hy]at G;cases G;have w:=B _ _ _ E;obtain⟨c,hc⟩:=wX.mp (C _ w rfl);have hX:=h _ _ hc;obtain⟨mX,ab,Q⟩:=I.loc;have kX:=S.fr _ w rfl;obtain⟨u,ru,lk⟩:=Q t x v O hv (by rcases kX with z|z;exact .inr (.inl z);exact .inr (.inr z));refine⟨u,ru,.inr ⟨?_,c,hc,?_⟩⟩
  ·exact ig E
  ·rcases lk with⟨z,_⟩|⟨_,c',e',q⟩
   ·have z':X.env.scope.names.lookup x=some .local:=z;rcases kX with kX|kX<;>rw[z']at kX<;>cases kX
   ·rw[hX]at e';cases e';obtain⟨o,T,U⟩:=q;exact⟨o,g _ o T,U⟩
 ·obtain⟨v,o,T,U⟩:=I.cell x c (h x c e);exact⟨v,o,g _ o T,U⟩
 ·rw[dA]at hp;obtain⟨e,n,ne,nf,d⟩:=I.pin p hp;refine⟨g _ _ e,n,cw (aQ e),fun z=>?_,d⟩;rcases bw.mp (I.stkSub _ z)with q|q
  ·exact ne q
  ·exact nf q
 ·rw[BC];exact S.len.symm
structure yS(X:Cx)(J6:Zd)(H:Hp)(C:Addr):Prop where
 free:H C=none
 loc:C≠X.env.locals
 young:X.s₀.heap.objs.size<=C
 cells:∀x c,X.env.cells.lookup x=some c->c≠C
 pin:∀p∈X.pn++J6,p.1≠C
theorem uH{elt iter tg:Expr}{ifs:List Expr}{scope:Scope}{pos:Pos}{k:Nat}{N:Zb}{fi:List Nat}{cl:List (Str×Addr)}{g:TG}{tc:TT}{te:TE}{it:Addr}{fp:Ze}{tn:Nat->Heap->Prop}{J:It}{s:Hp}{s2:Shared}{Q:VK}
  {E:Zc}{RR:Value->Addr->Result->Shared->Prop}
  (S:nJ X.env.scope scope k N X.N fi) (hc:X.calm=true) (aX:∀x c,cl.lookup x=some c->X.env.cells.lookup x=some c) (b7:∀y∈scope.names,y.2=.free->(cl.lookup y.1).isSome=true)
  (hg:∀C cl G H ex pn,PG (dY X N scope C cl G H ex pn) tg g) (ho:Ae k g) (ht:∀C cl G H ex pn,IJ (dY X N scope C cl G H ex pn) ifs tc) (he:∀C cl G H ex pn,PE (dY X N scope C cl G H ex pn) elt te)
  (I2:Inv X J6 σ s s2) (T:vp X.prog X.w X.K tg J fp it tn) (a0:tn 0 s2.heap) (f2:∀b∈fp,lN X J6 s b)
  (hw:∀l,s l=none->∃W:Nat->Nat->List V->Hp->Prop,(∃m,W 0 m [] (upd s l (.lst [])))/\∀i m O s,W i m O s->s l=some (.lst O) /\
   ((J.stop i s/\Q (.ref l) s)∨(J.go i s/\∀x H3,J.yld i s x H3->g x (eB k fi σ) H3 fun σ2 H4=>tc σ2 H4 fun b H5 =>
    if b=true then te σ2 H5 fun v H6=>H6 l=some (.lst O)/\O.length<ao/\∃U,U<m/\W (i+1) U (O++[v]) (upd H6 l (.lst (O++[v])))else ∃U,U<m/\W (i+1) U O H5)))
  (hR:∀D C L s' U,Inv X J6 σ L s'->s'.heap.Ns C U->yS X J6 L C->Q (.ref D) L->RR (.ref D) C (.ok .next) s') :
  wpAny (model X.prog X.w) X.A (newList []) (fun acc s₃=>wpAny (model X.prog X.w) X.A (newFunctionEnv scope X.env.globals cl [] X.env.qual none .none (some X.env)) (fun al s₄ =>
   zzl88 (model X.prog X.w) X.A (.compStart (.ListComp elt [⟨tg,iter,ifs,0⟩] scope pos) 0 (.ref it) acc { al with scope:=relabel scope X.env }) (RR acc al.locals) s₄) E s₃) E s2:=by
 have aj:s s2.heap.objs.size=none:=I2.fresh;obtain⟨W,⟨m0,w0⟩,turn⟩:=hw _ aj;refine s_ (wpAny_newFunctionEnv S.cell (by intro y hy;simp at hy) (fun I ab ai=>?_) S.kind);dsimp only at ab ai ⊢;have I3:Inv X J6 σ (upd s s2.heap.objs.size (.lst [])) { s2 with heap:=s2.heap.push { cls:=.type "list",data:=.seq ([]:Zf).toArray },toks:=s2.toks }:=I2.lnew (ys:=[]) .nil (cf _);generalize a4:({ s2 with heap:=s2.heap.push { cls:=.type "list",data:=.seq ([]:Zf).toArray },toks:=s2.toks }:Shared)=B at I3;have ak:B.heap=s2.heap.push { cls:=.type "list",data:=.seq ([]:Zf).toArray }:=by rw[<-a4]
 have b8:B.heap.objs.size=s2.heap.objs.size+1:=by rw[ak,kP]
 have a5:∀b∈fp,b<s2.heap.objs.size:=fun b f=>by
  obtain⟨o,e,_⟩:=T.obj 0 _ a0 b f;exact aQ e
 have f3:∀b∈fp,lN X J6 (upd s s2.heap.objs.size (.lst [])) b:=fun b f=>⟨by rw[am (cw (a5 b f))];exact(f2 b f).1,(f2 b f).2⟩;have an:∀b∈fp,b<B.heap.objs.size:=fun b f=>by rw[b8];exact Nat.lt_succ_of_lt (a5 b f)
 have a6:∀b o,B.heap.get? b=some o->I.get? b=some o:=fun b o e=>by
  have f:b≠B.heap.objs.size:=cw (aQ e);rw[ak]at e f;exact ai.extBut b o f (bh _ e)
 have ce:I.Ns B.heap.objs.size (fun x=>([]:List (Str×Value)).reverse.lookup x):=by rw[ak];exact ab
 have I4:Inv (dY X N scope B.heap.objs.size cl B (upd s s2.heap.objs.size (.lst [])) fp (X.pn++J6)) [] (eB k fi σ) (upd s s2.heap.objs.size (.lst [])) { B with heap:=I,toks:=s2.toks+([]:List (Str×Value)).length } :=
  Gr S I3 aX b7 f3 an ce a6
 have bd:tn 0 I:=T.keep _ _ _ a0 fun b f o e=>a6 b o (by rw[ak];exact bh _ e);generalize M:dY X N scope B.heap.objs.size cl B (upd s s2.heap.objs.size (.lst [])) fp (X.pn++J6)=Y at I4;have yp:Y.prog=X.prog:=by rw[<-M];rfl
 have yw:Y.w=X.w:=by rw[<-M];rfl
 have yK:Y.K=X.K:=by rw[<-M];rfl
 have yA:Y.A=X.A:=by rw[<-M];rfl
 have yx:Y.xe=XF:=by rw[<-M];rfl
 have yc:Y.calm=true:=by rw[<-M];exact hc
 have gY:PG Y tg g:=by rw[<-M];exact hg _ _ _ _ _ _
 have tY:IJ Y ifs tc:=by rw[<-M];exact ht _ _ _ _ _ _
 have eY:PE Y elt te:=by rw[<-M];exact he _ _ _ _ _ _
 have bi:Y.env=compEnvC scope cl B.heap.objs.size X.env:=by rw[<-M];rfl
 have fY:∀{L:Hp},(∀b∈fp,L b=none)->∀b∈fp,lN Y [] L b:=fun hn b f=>by
  obtain⟨f0,f1,bl,bm,f4,f5⟩:=f3 b f;rw[<-M];refine⟨hn b f,cw (an b f),fun z=>?_,.inl f,fun x c e=>f4 x c (aX x c e),fun p hp=>?_⟩
  ·rcases bw.mp (I3.stkSub _ z)with q|q
   ·exact f1 q
   ·exact bl q
  ·rw[dA]at hp;exact f5 p hp
 have ap:∀s4:Shared,s4={ B with heap:=I,toks:=s2.toks+([]:List (Str×Value)).length } ->
   zzl88 (model X.prog X.w) X.A (.compLoop (.ListComp elt [⟨tg,iter,ifs,0⟩] scope pos) 0 (.ref it) (.ref s2.heap.objs.size) Y.env) (RR (.ref s2.heap.objs.size) B.heap.objs.size) s4:=by
  rintro s4 rfl;refine yv (fun n s'=>∃i O L,Inv Y [] (eB k fi σ) L s'/\tn i s'.heap/\(∀b∈fp,L b=none)/\W i n O L) ?_ m0 ⟨0,[],_,I4,bd,fun b f=>(f3 b f).1,w0⟩;rintro n s5 ⟨i,O,H5,I5,bn,b0,w5⟩;obtain⟨c0,as⟩:=turn i n O H5 w5;rcases as with⟨stop,q⟩|⟨go,step⟩
  ·have d:=T.done Y yp yw yK yc i [] s5 _ H5 XF I5 (fY b0) bn stop;rw[yA]at d;refine cA d fun r s6 a=>?_;obtain⟨hr,I6⟩:=a;subst hr;have hu:Un (mI X.stack) fp (upd s s2.heap.objs.size (.lst [])) H5 B.heap s6.heap:=by have:=I6.base;rw[<-M]at this;exact this
   have ch:s6.os=B.os:=by have:=I6.os;rw[<-M]at this;exact this
   have b1:kO X.prog X.w X.K H5 s6.heap:=by have:=I6.hok;rw[<-M]at this;exact this
   have ci:H5 B.heap.objs.size=none:=by have:=I6.free;rw[<-M]at this;exact this
   obtain⟨m6,b2,_⟩:=I6.loc;have b3:s6.heap.Ns B.heap.objs.size m6:=by rw[<-M]at b2;exact b2
   have IX:Inv X J6 σ H5 s6:=I3.call' ch hu b1 I6.bare fun b f=>by
    obtain⟨f0,f1,bl,bm,f4,f5⟩:=f3 b f;exact⟨bm,f1,f4,f5⟩
   refine hR _ _ H5 s6 m6 IX b3 ⟨ci,eV I3.lt,I3.sz,fun x c e z=>?_,fun p hp z=>?_⟩ q
   ·obtain⟨v,o,ho,_⟩:=I3.cell x c e;exact absurd (aQ ho) (by rw[z];exact mC _)
   ·exact absurd (aQ (I3.pin p hp).1) (by rw[z];exact mC _)
  ·have d:=T.item Y yp yw yK yc i [] s5 _ H5 XF I5 (fY b0) bn go;rw[yA]at d;refine cA d fun r s6 a=>?_;obtain⟨u,hr,h6⟩:=a;subst hr;refine cA h6 fun _ s7 a=>?_;obtain⟨x,H7,I7,r7,y7,aC,ck⟩:=a;have cm:=I7.pinned (fY ck) (T.obj _ _ aC);have a7:=gY _ s7 _ H7 x u _ cm r7 (ho _ _ _ _ (step x H7 y7));rw[yp,yw,yA,yx]at a7;refine cA a7 fun _ s8 a=>?_;obtain⟨σ8,H8,I8,q8,l8,k8⟩:=a;have a8:=tY _ s8 σ8 H8 _ I8 q8;rw[yp,yw,yA,yx]at a8;have again:∀{H9:Hp}{s9:Shared}{aH:List V}{U:Nat},Inv Y ([]++qe fp s7.heap) σ8 H9 s9->U<n->W (i+1) U aH H9->∃m,m<n/\∃i O L,Inv Y [] (eB k fi σ) L s9/\tn i s9.heap/\(∀b∈fp,L b=none)/\W i m O L:=fun{H9 s9 aH U} I9 hm w9=>by
    refine⟨U,hm,i+1,aH,H9,(I9.unpinned).weak l8.symm (fun j v e=>?_),T.keep _ _ _ aC fun b f o e=>(I9.pin (b,o) (dI _ (dI _ (gy f e)))).1,fun b f=>?_,w9⟩
    ·obtain⟨j',t,rfl,_,_⟩:=uI e;rw[k8 _ (Nat.le_add_right _ _)];exact e
    ·obtain⟨o,e,_⟩:=T.obj _ _ aC b f;exact(I9.pin (b,o) (dI _ (dI _ (gy f e)))).2.1
   refine cA a8 fun b s9 a=>?_;obtain⟨H9,I9,q9⟩:=a;cases b with
   |false =>
    rw[if_neg jG]at q9 ⊢;obtain⟨U,hm,w9⟩:=q9;exact again I9 hm w9
   |true =>
    rw[if_pos rfl]at q9 ⊢;have a9:=eY _ s9 σ8 H9 _ I9 q9;rw[yp,yw,yA,yx]at a9;refine cA a9 fun y cn a=>?_;obtain⟨v,b4,co,cs,b5,aT,U,hm,ct⟩:=a;have b6:=dO (X:=Y) _ cn σ8 b4 (.ref s2.heap.objs.size) [v] (.ref s2.heap.objs.size) [y] (fun z L=>z=.non/\L=upd b4 s2.heap.objs.size (.lst (O++[v]))) co rfl (.cons cs .nil) ⟨_,O,v,rfl,rfl,b5,aT,rfl,rfl⟩;rw[yp,yw,yA,yx]at b6;refine cA b6 fun _ c1 a=>?_;obtain⟨_,c2,cB,_,_,cC⟩:=a;subst cC;exact again cB hm ct
 have h:=codeAny_compStart_list (prog:=X.prog) (w:=X.w) (A:=X.A) (elt:=elt) (target:=tg) (iter:=iter) (ifs:=ifs) (rest:=[]) (scope:=scope) (pos:=pos) (it:=.ref it) (acc:=.ref s2.heap.objs.size) (env:=Y.env) (ap _ rfl) (T.self _ 0 _ _ _ bd (ap _ rfl));rw[bi]at h;rw[<-a4]at h;exact h
end
section
variable{X:Cx}
theorem yS.turned{a:Zd}{σ:St}{H:Hp}{s:Shared}{C:Addr}{f:Heap}(c:yS X a H C)(I:Inv X a σ H s)(g:jH C s.heap f):Inv X a σ H { s with heap:=f } :=
 I.turned (t':=s.toks) (fun b o h e=>g.extBut b o h e) c.free c.loc (.inr c.young) c.cells c.pin
theorem Hl{m i p:Expr}{n:List Expr}{scope:Scope}{r:Pos}{k:Nat}{N:Zb}{G:List Nat}{L:TI}{g:TG}{M:TT}{O:TE}(Y:mh X.env.scope scope k N X.N G=true)(hc:X.calm=true)(hi:PI X p i L)
  (hg:∀C l a f ex o,PG (dY X N scope C l a f ex o) p g) (ho:Ae k g) (ht:∀C l a f ex o,IJ (dY X N scope C l a f ex o) n M) (he:∀C l a f ex o,PE (dY X N scope C l a f ex o) m O)
  (hs:∀x,vA i X.env x=pure x:=by intro _;rfl):PE X (.ListComp m [⟨p,i,n,0⟩] scope r) (dR k G L g M O):=by
 intro U s σ H Q I h;have S:=nJ.of Y;obtain⟨l,j,t,u⟩:=uJ (env:=X.env) (scope:=scope) fun y hy e=>I.ok.has y.1 (S.fr y hy e);rw[eval_ListComp];refine wpAny_comprehension_free (use:=none) rfl hs j S.kind S.nm (cA (hi U s σ H _ I h) fun v s1 h1=>cA h1 fun ab s2 h2=>?_);obtain⟨it,fp,tn,J,H2,e,I2,T,z,f2,hw⟩:=h2;subst e;refine uH (RR:=fun B C=>compPost (model X.prog X.w) X.A X.xe none (EP X U σ Q) B C) S hc t u hg ho ht he I2 T z f2 hw ?_;intro D C H' s' m' I' hn ce q;exact⟨m',hn,fun h' E=>⟨.ref D,H',ce.turned I' E,rfl,q⟩⟩
theorem Ba{m f B:Expr}{n:List Expr}{scope:Scope}{p o t:Pos}{k:Nat}{N:Zb}{fi:List Nat}{wi:TI}{g:TG}{tc:TT}{te:TE}{j:Nat}{y:Str}(hN:X.N.Nodup)(hj:X.N[j]?=some y)(L:Loc X.env.scope y)(hS:mh X.env.scope scope k N X.N fi=true)(hc:X.calm=true)(hi:PI X B f wi)
  (hg:∀C u i l ex E,PG (dY X N scope C u i l ex E) B g) (ho:Ae k g) (ht:∀C u i l ex E,IJ (dY X N scope C u i l ex E) n tc) (he:∀C u i l ex E,PE (dY X N scope C u i l ex E) m te)
  (M:mz (.ListComp m [⟨B,f,n,0⟩] scope p) (some (.Name y t)) o.line X.env=pure true:=by rfl)
  (hs:∀x,vA f X.env x=pure x:=by intro _;rfl) (hf:X.fn y=true∨X.env.scope.names.lookup y=some .local:=by first|exact .inl rfl|exact .inr rfl|assumption) :
  PS X (.Assign [.Name y t] (.ListComp m [⟨B,f,n,0⟩] scope p) o) (aN (dR k fi wi g tc te) (d_ j)):=by
 intro O s σ H D I h;have S:=nJ.of hS;obtain⟨u,r,U,Y⟩:=uJ (env:=X.env) (scope:=scope) fun y L e=>I.ok.has y.1 (S.fr y L e);rw[exec_Assign_Name_used _ _ _ _ M];refine ar (q_ (ar ?_));show wpAny _ X.A (do let _ <- comprehension (.ListComp m [⟨B,f,n,0⟩] scope p) scope X.env _ (newList []) false (eval f X.env) (some (assign (.Name y t) X.env))) _ _ s
 refine ar (dF (wpAny_comprehension_free (use:=some (assign (.Name y t) X.env)) (Q:=fun _ G=>SP X O D .next G) rfl hs r S.kind S.nm
  (cA (hi O s σ H _ I h) fun v s1 h1=>cA h1 fun as s2 h2=>?_)) (fun _ G hq=>be (be hq)) fun _ _ e=>e)
 obtain⟨it,fp,tn,J,H2,e,I2,T,ab,f2,hw⟩:=h2;subst e;refine uH (RR:=fun ai C=>compPost (model X.prog X.w) X.A X.xe (some (assign (.Name y t) X.env)) (fun _ G=>SP X O D .next G) ai C) (Q:=fun x H1=>d_ j x σ H1 D.nx) S hc U Y hg ho ht he I2 T ab f2 hw ?_;intro A C H' G m' I' hn ce q;show wpAny _ X.A (assign (.Name y t) X.env (.ref A)) _ _ _;refine wpAny_assign_Name (vJ I' hN hj L (v:=.ref A) rfl (fun aC aj ak=>?_) hf);obtain⟨a,al,ha⟩:=ak;have an:C≠a:=by
  rcases ha with z|z
  ·rw[z];exact ce.loc
  ·exact cZ (ce.cells y a z)
 refine⟨m',hn.sameBut al an,fun h' ap=>?_⟩;exact⟨_,H',ce.turned aj ap,q⟩
end
theorem Inv.turnedNew{X:Cx}{i:Zd}{σ:St}{H:Hp}{s:Shared}{g:Heap}{p:Nat}{ch:Ze}{o:HO}(I:Inv X i σ H s)(hf:∀b∈ch,lN X i H b)
  (k:∀b q,b∉ch->s.heap.get? b=some q->g.get? b=some q) (M:∃q,g.get? s.heap.objs.size=some q) (t:∀y,o≠.own y) (new:cN X.prog X.w X.K (upd H s.heap.objs.size o) g s.heap.objs.size o) :
  Inv X i σ (upd H s.heap.objs.size o) { s with heap:=g,toks:=p }:=by
 have a:H s.heap.objs.size=none:=I.fresh;have j:∀b q,s.heap.get? b=some q->b≠s.heap.objs.size:=fun b q e=>cw (aQ e);have l:∀b u,H b=some u->b∉ch:=fun b u e z=>by rw[(hf b z).1]at e;cases e
 refine I.step (g':=s.gens) (d':=s.drawn) (ch:=ch) (fun b h=>?_) (fun b q _ _ f e _=>k b q f e) (fun b q _ _ f e _=>⟨q.slots,k b q f e⟩) (fun b q _ e n=>by rw[am (j b q e)];exact n) (fun b q f e=>⟨q,k b q f e⟩)
  (fun b xs e=>by rw[am (ah e a)];exact e) (fun b q u e=>by rw[am (ah e a)];exact e) (fun b N e=>⟨#[],by rw[am (ah e a),e];simp⟩) (fun m x=>?_) (fun b u e=>?_) I.bare
 ·obtain⟨O,B,Q,C,D,E⟩:=hf b h;exact⟨C,B,D,E⟩
 ·obtain⟨q,G,J,L,r⟩:=x;exact⟨q,G,J,k _ q (fun z=>(hf _ z).2.1 rfl) L,r⟩
 ·by_cases h:b=s.heap.objs.size
  ·subst h;rw[aa]at e;cases e;exact new
  ·rw[am h]at e;refine(I.hok b u e).stay (fun c v f q=>k c v ?_ q) (fun c q=>by rw[am (ah q a)];exact q) fun c xs q=>by rw[am (ah q a)];exact q
   rcases f with z|z
   ·subst z;exact l _ _ e
   ·exact l _ _ z
def KU(K:Za)(a:Addr):It :=
 ⟨fun i H=>∃xs x,aA K H a xs/\xs[i]?=some x,fun i H x H'=>∃p v,x=.ref p/\H p=none/\(∀xs,aA K H a xs->xs[i]?=some v)/\H'=upd H p (.tup [.int i,v]),fun i H=>∃xs,aA K H a xs/\xs.length<=i⟩
theorem Dh{P:bF}{w:World}{K:Za}{es:List Expr}{kx:Nat}{U1:Pos}(a e it:Addr)(n:e≠it):
  vp P w K (.Tuple es kx U1) (KU K a) [e,it] e (fun i h=>(∃f,IsEnum h e it i f)/\h.IsListIter it a i) where
 mem:=by simp
 obj:=fun i h st b m=>by
  obtain⟨⟨f,j⟩,o,J,L,hd⟩:=st;rcases bw.mp m with z|z
  ·subst z;exact⟨_,j,fun v z=>by cases z⟩
  ·have M:b=it:=by simpa using z
   subst M;exact⟨o,J,fun v z=>by rw[hd]at z;cases z⟩
 keep:=fun i h D st k=>⟨let⟨f,j⟩:=st.1;⟨f,k e (by simp) _ j⟩,st.2.at fun o e=>k it (by simp) o e⟩
 item:=by
  intro X N O Q L i J6 s σ H E I hf st T;subst N O Q;obtain⟨⟨f,j⟩,l⟩:=st;obtain⟨xs,x,G,hx⟩:=T;obtain⟨U,Y,p,hz⟩:=I.list G;obtain⟨u,hu,ru⟩:=Y.get hx;obtain⟨e0,e1,e2,e3,e4,e5⟩:=hf e (by simp);obtain⟨f0,f1,f2,f3,f4,f5⟩:=hf it (by simp);refine wpAny_pyNext_enum_item j l p.isList (x:=u) (by simpa using hu) n fun D ab r ai aT aj=>?_;refine⟨_,rfl,wpAny_letOwnedTupleGo_enum (s:={ s with heap:=D,toks:=s.toks+1 }) ab fun h2 ak al=>?_⟩;have g:jH e D h2:=al;have t:s.heap.objs.size≠e:=eV (aQ j);have B:h2.get? s.heap.objs.size=some { cls:=.type "tuple",data:=.seq #[.int i s.toks,u] }:=g.extBut _ _ t ai;have an:H s.heap.objs.size=none:=I.fresh;have ap:upd H s.heap.objs.size (.tup [.int i,x]) e=none:=by rw[am (cZ t)];exact e0
  have as:s.heap.objs.size≠it:=by
   obtain⟨o,J,_⟩:=l;exact eV (aQ J)
  have aC:upd H s.heap.objs.size (.tup [.int i,x]) it=none:=by rw[am (cZ as)];exact f0
  have I2:Inv X J6 σ (upd H s.heap.objs.size (.tup [.int i,x])) { s with heap:=h2,toks:=s.toks+1 }:=by
   refine I.turnedNew (ch:=[e,it]) hf (fun b o m q=>?_) ⟨_,B⟩ (fun _ z=>nomatch z) ⟨by show 2<=ao;decide,[.int i s.toks,u],.cons ⟨_,rfl⟩ (.cons ru .nil),⟨_,B,rfl,_,rfl⟩⟩;have C:b≠e:=fun z=>m (by simp[z]);have aH:b≠it:=fun z=>m (by simp[z]);exact g.extBut _ _ C (aj b o C aH q)
  refine⟨.ref s.heap.objs.size,_,I2,rfl,⟨_,x,rfl,an,fun ys hy=>by rw[I.list_inj hy G];exact hx,rfl⟩,⟨⟨u,by simpa using ak⟩,r.at fun o y=>(g.2 it (cZ n)).trans y⟩,fun b m=>?_⟩;rcases bw.mp m with z|z
  ·subst z;exact ap
  ·have M:b=it:=by simpa using z
   subst M;exact aC
 done:=by
  intro X N O Q L i J6 s σ H E I hf st T;subst N O Q;obtain⟨⟨f,j⟩,l⟩:=st;obtain⟨xs,G,hx⟩:=T;obtain⟨U,Y,p,hz⟩:=I.list G;obtain⟨f0,f1,f2,f3,f4,f5⟩:=hf it (by simp);have hl:=Y.length;exact wpAny_pyNext_enum_end (I.ok.hd L) j l p.isList (by simp;omega) fun D eb=>⟨rfl,I.turned (t':=s.toks) (fun b o m e=>eb b o m e) f0 f1 f3 f4 f5⟩
 self:=fun _ _ _ _ _ st h=>let⟨_,j⟩:=st.1;wpAny_pyIter_enum j h
section
variable{X:Cx}{p pos:Pos}{es:List Expr}{kx:Nat}{U1:Pos}
def lI(K:Za)(ta:TA):TI:=fun σ H R=>ta σ H fun vs H1=>∃a,vs=[.ref a]/\(∃xs,aA K H1 a xs)/\R (KU K a) H1
theorem gH{a:Expr}{n:TA}(w:Gl X "enumerate")(x:X.mg "enumerate"=none)(y:PA X [a] n)(B:aB [a] X.env=[(false,eval a X.env)]:=by rfl):PI X (.Tuple es kx U1) (.Call (.Name "enumerate" p) [a] [] pos) (lI X.K n):=by
 intro r s σ H R I h;refine Call_ (qt I w x boot_enumerate (BY (cA (y pos r s σ H _ I h) fun T s1 i=>?_) B rfl));obtain⟨U,t,g,C,D⟩:=i;obtain⟨l,e,⟨xs,E⟩,q⟩:=D;subst e;obtain⟨u,rfl,G⟩:=vals1 C;cases G;obtain⟨J,Y,pl,hz⟩:=g.list E;refine call_enumerate_list pl.isList fun j v k L M=>?_;refine wpAny_pyIter_enum (s:={ s1 with heap:=j }) v ?_;have m:∀b o,s1.heap.get? b=some o->j.get? b=some o:=M;have N:Inv X r σ t { s1 with heap:=j }:=g.kept (t':=s1.toks) m;refine⟨_,[s1.heap.objs.size+1,s1.heap.objs.size],_,_,t,rfl,N,Dh l _ _ (Nat.succ_ne_self _),⟨⟨_,v⟩,k⟩,fun b O=>?_,q⟩;have f:s1.heap.objs.size<=b:=by
  rcases bw.mp O with z|z
  ·rw[z];exact hV _
  ·have Q:b=s1.heap.objs.size:=by simpa using z
   rw[Q];exact aG _
 exact g.fpOk f (g.hok.fresh f)
end
def Lf(x:Str):It:=⟨fun i _=>i<x.cps.size,fun i H y H'=>H'=H/\∃c,x.cps[i]?=some c/\y=.str ⟨#[c]⟩,fun i _=>x.cps.size<=i⟩
theorem Ay{P:bF}{w:World}{K:Za}{G:Expr}(x:Str)(t:Tok)(it:Addr):vp P w K G (Lf x) [it] it (fun i h=>h.IsStrIter it "str_ascii_iterator" x t i) where
 mem:=by simp
 obj:=fun i h st b a=>by
  have e:b=it:=by simpa using a
  subst e;obtain⟨o,e,c,d⟩:=st;exact⟨o,e,fun v z=>by rw[d]at z;cases z⟩
 keep:=fun i h g st k=>by
  obtain⟨o,e,c,d⟩:=st;exact⟨o,k it (by simp) o e,c,d⟩
 item:=by
  intro X j l m C i D s σ H E I hf st n;subst j l m;have p:i<x.cps.size:=n;obtain⟨q,r,J,u,y,B⟩:=hf it (by simp);have hx:x.cps[i]?=some x.cps[i]:=by simp[p]
  refine wpAny_pyNext_ascii_item st hx fun g f L=>?_;have M:Inv X D σ H { s with heap:=g,toks:=s.toks+1 }:=I.turned (t':=s.toks+1) (fun b o a e=>(L.2 b a).trans e) q r u y B;obtain⟨o,e,c,d⟩:=id f;exact⟨_,rfl,zV (s:={ s with heap:=g,toks:=s.toks+1 }) e c d (by decide) ⟨.str ⟨#[x.cps[i]]⟩,H,M,⟨_,rfl⟩,⟨rfl,_,hx,rfl⟩,f,fun b a=>(hf b a).1⟩⟩
 done:=by
  intro X j l m C i D s σ H E I hf st n;subst j l m;have N:x.cps.size<=i:=n;obtain⟨q,r,J,u,y,B⟩:=hf it (by simp);exact wpAny_pyNext_ascii_end (I.ok.hd C) st (by simp;omega) fun g O=>⟨rfl,I.turned (t':=s.toks) (fun b o a e=>O b o a e) q r u y B⟩
 self:=fun _ _ _ _ _ st h=>wpAny_pyIter_striter_ascii st h
theorem Dg{P:bF}{w:World}{K:Za}{G:Expr}(x:Str)(t:Tok)(it:Addr):vp P w K G (Lf x) [it] it (fun i h=>h.IsStrIter it "str_iterator" x t i) where
 mem:=by simp
 obj:=fun i h st b a=>by
  have e:b=it:=by simpa using a
  subst e;obtain⟨o,e,c,d⟩:=st;exact⟨o,e,fun v z=>by rw[d]at z;cases z⟩
 keep:=fun i h g st k=>by
  obtain⟨o,e,c,d⟩:=st;exact⟨o,k it (by simp) o e,c,d⟩
 item:=by
  intro X j l m C i D s σ H E I hf st n;subst j l m;have p:i<x.cps.size:=n;obtain⟨q,r,J,u,y,B⟩:=hf it (by simp);have hx:x.cps[i]?=some x.cps[i]:=by simp[p]
  refine wpAny_pyNext_wide_item st hx fun g f L=>?_;have M:Inv X D σ H { s with heap:=g,toks:=s.toks+1 }:=I.turned (t':=s.toks+1) (fun b o a e=>(L.2 b a).trans e) q r u y B;obtain⟨o,e,c,d⟩:=id f;exact⟨_,rfl,zV (s:={ s with heap:=g,toks:=s.toks+1 }) e c d (by decide) ⟨.str ⟨#[x.cps[i]]⟩,H,M,⟨_,rfl⟩,⟨rfl,_,hx,rfl⟩,f,fun b a=>(hf b a).1⟩⟩
 done:=by
  intro X j l m C i D s σ H E I hf st n;subst j l m;have N:x.cps.size<=i:=n;obtain⟨q,r,J,u,y,B⟩:=hf it (by simp);exact wpAny_pyNext_wide_end (I.ok.hd C) st (by simp;omega) fun g O=>⟨rfl,I.turned (t':=s.toks) (fun b o a e=>O b o a e) q r u y B⟩
 self:=fun _ _ _ _ _ st h=>wpAny_pyIter_striter_wide st h
section
variable{X:Cx}{p pos:Pos}{tg:Expr}
def Jy(tl:TE):TI:=fun σ H R=>tl σ H fun v H1=>∃x,v=.str x/\R (Lf x) H1
theorem Fu{l:Expr}{k:TE}(r:PE X l k):PI X tg l (Jy k):=by
 intro m s σ H R I h;refine cA (r m s σ H _ I h) fun v a i=>?_;obtain⟨y,j,g,u,w⟩:=i;obtain⟨x,e,q⟩:=w;subst e;obtain⟨t,rfl⟩:=u;have f:∀b∈[a.heap.objs.size],lN X m j b:=fun b z=>by
  have e:b=a.heap.objs.size:=by simpa using z
  subst e;exact g.fpOk (aG _) (g.hok.fresh (aG _))
 cases n:x.cps.all (·<128)
 ·refine wpAny_pyIter_wide n ?_;exact⟨a.heap.objs.size,[a.heap.objs.size],_,_,j,rfl,g.kept (t':=a.toks) fun b o e=>bh _ e,Dg x t _,⟨_,dJ _ rfl,rfl,rfl⟩,f,q⟩
 ·refine wpAny_pyIter_ascii n ?_;exact⟨a.heap.objs.size,[a.heap.objs.size],_,_,j,rfl,g.kept (t':=a.toks) fun b o e=>bh _ e,Ay x t _,⟨_,dJ _ rfl,rfl,rfl⟩,f,q⟩
end
def Itz(K:Za)(a b:Addr):It :=
  ⟨fun i H=>∃xs ys x y,aA K H a xs/\aA K H b ys/\xs[i]?=some x/\ys[i]?=some y,
   fun i H x H'=>∃p u v,x=.ref p/\H p=none/\(∀xs,aA K H a xs->xs[i]?=some u)/\(∀ys,aA K H b ys->ys[i]?=some v)/\H'=upd H p (.tup [u,v]),
   fun i H=>∃xs ys,aA K H a xs/\aA K H b ys/\(xs.length<=i∨ys.length<=i)⟩
theorem EE{P:bF}{w:World}{K:Za}{es:List Expr}{kx:Nat}{U1:Pos}(a b z TI TO t B:Addr)(D:pF z TI TO t B a b):
  vp P w K (.Tuple es kx U1) (Itz K a b) [z,TI,TO,t,B] z (fun i h=>IsZip h z TI TO .none/\IsPair h TI (.ref t) (.ref B)/\(∃a b,IsPair h TO a b)/\h.IsListIter t a i/\h.IsListIter B b i) where
 mem:=by simp
 obj:=fun i h st c f=>by
  obtain⟨p,j,⟨u,v,l⟩,J,L⟩:=st;simp only[bw,iE,or_false]at f;rcases f with rfl|rfl|rfl|rfl|rfl
  ·exact⟨_,p,fun v z=>by cases z⟩
  ·exact⟨_,j,fun v z=>by cases z⟩
  ·exact⟨_,l,fun v z=>by cases z⟩
  ·obtain⟨o,e,c,d⟩:=J;exact⟨o,e,fun v z=>by rw[d]at z;cases z⟩
  ·obtain⟨o,e,c,d⟩:=L;exact⟨o,e,fun v z=>by rw[d]at z;cases z⟩
 keep:=fun i h N st k=>by
  obtain⟨p,j,⟨u,v,l⟩,J,L⟩:=st;exact⟨k z (by simp) _ p,k TI (by simp) _ j,⟨u,v,k TO (by simp) _ l⟩,J.at fun o e=>k t (by simp) o e,L.at fun o e=>k B (by simp) o e⟩
 item:=by
  intro X hP hw hK f i J6 s σ H E I hf st hg;subst hP hw hK;obtain⟨p,j,⟨u0,v0,l⟩,J,L⟩:=st;obtain⟨xs,ys,x,y,C,G,hx,hy⟩:=hg;obtain⟨ak,rx,px,zx⟩:=I.list C;obtain⟨al,ry,py,zy⟩:=I.list G;obtain⟨u,hu,ru⟩:=rx.get hx;obtain⟨v,hv,rv⟩:=ry.get hy;refine wpAny_pyNext_zip_item D p j l J L px.isList py.isList (x:=u) (y:=v) (by simpa using hu) (by simpa using hv) fun N a1 a2 a3 a4 a5 a6 hk=>?_;refine⟨_,rfl,wpAny_letOwnedTupleGo_zip (s:={ s with heap:=N }) a1 fun M an ap=>?_⟩;have g:jH z N M:=ap;have O:s.heap.objs.size≠z:=eV (aQ p);have Q:s.heap.objs.size≠TO:=eV (aQ l);have T:s.heap.objs.size≠TI:=eV (aQ j);have U:s.heap.objs.size≠t:=by obtain⟨o,Y,_⟩:=J;exact eV (aQ Y)
  have ab:s.heap.objs.size≠B:=by obtain⟨o,Y,_⟩:=L;exact eV (aQ Y)
  have ai:IsPair M s.heap.objs.size u v:=g.extBut _ _ O a5;have I2:Inv X J6 σ (upd H s.heap.objs.size (.tup [x,y])) { s with heap:=M,toks:=s.toks }:=by
   refine I.turnedNew (ch:=[z,TI,TO,t,B]) hf (fun c o f q=>?_) ⟨_,ai⟩ (fun _ z=>nomatch z) ⟨by show 2<=ao;decide,[u,v],.cons ru (.cons rv .nil),⟨_,ai,rfl,_,rfl⟩⟩;have n1:c≠z:=fun q=>f (by simp[q]);exact g.extBut _ _ n1 (hk c o n1 (fun q=>f (by simp[q])) (fun q=>f (by simp[q])) (fun q=>f (by simp[q])) q)
  refine⟨.ref s.heap.objs.size,_,I2,rfl,⟨_,x,y,rfl,I.fresh,fun zs p=>by rw[I.list_inj p C];exact hx,fun zs p=>by rw[I.list_inj p G];exact hy,rfl⟩,⟨an,g.extBut _ _ D.TIz (hk _ _ D.TIz D.TITO D.TIi1 D.TIi2 j),⟨_,_,g.extBut _ _ D.TOz a2⟩,a3.at fun o e=>g.extBut _ _ D.i1z e,a4.at fun o e=>g.extBut _ _ D.i2z e⟩,fun c f=>?_⟩;have as:=(hf c f).1;simp only[bw,iE,or_false]at f;have ne:c≠s.heap.objs.size:=by
   rcases f with rfl|rfl|rfl|rfl|rfl
   ·exact O.symm
   ·exact T.symm
   ·exact Q.symm
   ·exact U.symm
   ·exact ab.symm
  rw[am ne];exact as
 done:=by
  intro X hP hw hK f i J6 s σ H E I hf st hg;subst hP hw hK;obtain⟨p,j,⟨u0,v0,l⟩,J,L⟩:=st;obtain⟨xs,ys,C,G,aj⟩:=hg;obtain⟨ak,rx,px,zx⟩:=I.list C;obtain⟨al,ry,py,zy⟩:=I.list G;have lx:=rx.length;have ly:=ry.length;refine wpAny_pyNext_zip_end (I.ok.hd f) D p j l J L px.isList py.isList (by rcases aj with q|q;exact .inl (by simp;omega);exact .inr (by simp;omega)) fun N hk=>⟨rfl,?_⟩;have tr:∀c q,H c=some q->c∉[z,TI,TO,t,B]:=fun c q e m=>by rw[(hf c m).1]at e;cases e
  have kk:∀c o,c∉[z,TI,TO,t,B]->s.heap.get? c=some o->N.get? c=some o:=fun c o f q=>hk c o (fun q=>f (by simp[q])) (fun q=>f (by simp[q])) (fun q=>f (by simp[q])) (fun q=>f (by simp[q])) q;refine I.step (g':=s.gens) (d':=s.drawn) (t':=s.toks) (ch:=[z,TI,TO,t,B]) (fun c f=>?_) (fun c o _ _ f e _=>kk c o f e) (fun c o _ _ f e _=>⟨o.slots,kk c o f e⟩) (fun _ _ _ _ n=>n) (fun c o f e=>⟨o,kk c o f e⟩) (fun _ _ e=>e) (fun _ _ _ e=>e) (fun c ps e=>⟨#[],by rw[e];simp⟩) (fun m hm=>?_) (fun c q e=>?_) I.bare
  ·obtain⟨f0,f1,f2,f3,f4,f5⟩:=hf c f;exact⟨f3,f1,f4,f5⟩
  ·obtain⟨q,aC,ep,Y,r⟩:=hm;exact⟨q,aC,ep,kk _ q (fun z=>(hf _ z).2.1 rfl) Y,r⟩
  ·refine(I.hok c q e).stay (fun d v hd q'=>kk d v ?_ q') (fun _ q=>q) fun _ _ q=>q;rcases hd with z|z
   ·subst z;exact tr _ _ e
   ·exact tr _ _ z
 self:=fun _ _ _ _ _ st h=>wO st.1 h
section
variable{prog:bF}{w:World}{A:Around}{E:Zc}{s:Shared}
theorem ky{it t:Addr}{i:Nat}{items:Array Value}{x:Value}{Q:Zc}(st:s.heap.IsTupleIter it t i)(g:s.heap.IsTuple t items)(hx:items[i]?=some x)
  (k:∀f,f.IsTupleIter it t (i+1)->jH it s.heap f->Q x { s with heap:=f }):wpAny (model prog w) A (kY (.ref it)) Q E s:=by
 obtain⟨m,e,h,a⟩:=id st;obtain⟨n,j,_,o,l⟩:=g;unfold kY;refine ar (wN (name:=wM "__next__") st.typeIs wL
  (C9 wL st.typeIs F.entry_tuple_iterator_next ?_ (F.args_tuple_iterator_next_1 _)))
 show wpAny _ _ (field (.ref it) 0 >>= _) _ _ s;refine ar (cx e a (x:=.ref t) rfl ?_);show wpAny _ _ (if(Value.ref t==Value.none)=true then _ else _) _ _ s
 rw[if_neg (show ¬((Value.ref t==Value.none)=true)from jG)];show wpAny _ _ (field (.ref it) 1 >>= _) _ _ s;refine ar (cx e a (x:=.int i 0) rfl ?_);show wpAny _ _ (seqItems? (.ref t) >>= _) _ _ s;refine ar (mD j l ?_);simp only[mT,hx];refine ar (ju e a (by simp) (be ⟨x,rfl,be (k _ ?_ (sZ ..))⟩));exact⟨_,hW _ e (kU (hJ a _)),(Obj.cls_mapFields ..).trans h,by
  rw[hJ a];simp[rawInt]⟩
theorem rB{it t:Addr}{i:Nat}{items:Array Value}{Q:Zc}(j:A.handled=none)(st:s.heap.IsTupleIter it t i)(l:s.heap.IsTuple t items)(hx:items[i]?=none)
  (k:∀f e,Heap.ExtBut it s.heap f->(∃o,f.get? e=some o/\o.cls=.type "StopIteration")->E (.ref e) { s with heap:=f }):wpAny (model prog w) A (kY (.ref it)) Q E s:=by
 obtain⟨q,g,r,h⟩:=id st;obtain⟨u,n,_,v,p⟩:=l;unfold kY;refine ar (wN (name:=wM "__next__") st.typeIs wL
  (C9 wL st.typeIs F.entry_tuple_iterator_next ?_ (F.args_tuple_iterator_next_1 _)))
 show wpAny _ _ (field (.ref it) 0 >>= _) _ _ s;refine ar (cx g h (x:=.ref t) rfl ?_);show wpAny _ _ (if(Value.ref t==Value.none)=true then _ else _) _ _ s
 rw[if_neg (show ¬((Value.ref t==Value.none)=true)from jG)];show wpAny _ _ (field (.ref it) 1 >>= _) _ _ s;refine ar (cx g h (x:=.int i 0) rfl ?_);show wpAny _ _ (seqItems? (.ref t) >>= _) _ _ s;refine ar (mD n p ?_);simp only[mT,hx];refine ar (rk (ar (ju g h (by simp) ?_)));show wpAny _ _ (newExc (.type "StopIteration") [] >>= _) _ _ _;refine ar ?_;simp only[newExc,newTuple];refine ar (s_ ?_ (by size_fits));refine ar (m:=firstArgMember _ _) (wpAny_of_eq (a:=Value.none) (by first|rfl|(simp only[firstArgMember];rfl)) ?_)
 refine s_ ?_ (by size_fits);simp only[raiseNew];refine ar (wpAny_handled ?_)
 first|rw[show A.in1.handled=none from j] | rw[j]
 refine ar (be (wpAny_throw ?_));exact k _ _ (((sZ ..).extBut.push _).push _) ⟨_,dJ _ rfl,rfl⟩
theorem C_{z TI TO L M l1 l2:Addr}{k1 k2:Nat}{xs ys:Array Value}{x y a b:Value}{Q:Zc}(D:pF z TI TO L M l1 l2)
  (gz:IsZip s.heap z TI TO .none) (gI:IsPair s.heap TI (.ref L) (.ref M)) (gO:IsPair s.heap TO a b)
  (g1:s.heap.IsTupleIter L l1 k1) (g2:s.heap.IsTupleIter M l2 k2) (t1:s.heap.IsTuple l1 xs) (t2:s.heap.IsTuple l2 ys) (hx:xs[k1]?=some x) (hy:ys[k2]?=some y)
  (k:∀N,IsZip N z TI TO (rawInt s.heap.objs.size)->IsPair N TO x y->N.IsTupleIter L l1 (k1+1)->N.IsTupleIter M l2 (k2+1)->IsPair N s.heap.objs.size x y->N.objs.size=s.heap.objs.size+1 ->
   (∀c o,c≠z->c≠TO->c≠L->c≠M->s.heap.get? c=some o->N.get? c=some o)->Q (.ref s.heap.objs.size) { s with heap:=N }) :
  wpAny (model prog w) A (cT.«zip.__next__» ⟨[.ref z],[]⟩) (fun ap s'=>∃v,ap=.done (.ret v)/\Q v s') E s:=by
 show wpAny _ _ (field (.ref z) 2 >>= _) _ _ _;refine ar (cx gz rfl (x:=.bool false) rfl ?_);show wpAny _ _ (field (.ref z) 3 >>= _) _ _ _;refine ar (cx gz rfl (x:=.ref TI) rfl ?_);refine ar (mD gI rfl ?_);show wpAny _ _ (wK (.ref z) >>= _) _ _ _;refine ar ?_;unfold wK;refine ar (cx gz rfl (x:=.none) rfl (be ?_));simp only[if_true];refine ar (rk ?_);refine ar (cx gz rfl (x:=.ref TO) rfl ?_);refine ar (pE gz (by simp) fun m₁ q g=>?_)
 replace q:IsZip m₁ z TI TO .ellipsis:=q
 refine ar ?_;simp only[List.zipIdx_cons,List.zipIdx_nil,tj,List.forIn_nil];refine ar (ar (sY ?_));show wpAny _ _ (kY (.ref L) >>= _) _ _ _;refine ar (ky (g1.extBut g.extBut D.i1z) (t1.extBut g.extBut D.l1z) hx fun m₂ O h=>be ?_);have B:IsPair m₂ TO a b:=h.extBut _ _ D.TOi1 (g.extBut _ _ D.TOz gO);refine ar (mD B rfl ?_);refine ar (wpAny_updateSeq_pair B fun m₃ t i=>?_)
 replace t:IsPair m₃ TO x b:=t
 refine ar (wJ (be ?_));refine ar (ar (sY ?_));show wpAny _ _ (kY (.ref M) >>= _) _ _ _;refine ar (ky (((g2.extBut g.extBut D.i2z).extBut h.extBut D.i12.symm).extBut i.extBut D.TOi2.symm)
  (((t2.extBut g.extBut D.l2z).extBut h.extBut D.l2i1).extBut i.extBut D.l2TO) hy fun m₄ T m=>be ?_)
 have C:IsPair m₄ TO x b:=m.extBut _ _ D.TOi2 t;refine ar (mD C rfl ?_);refine ar (wpAny_updateSeq_pair C fun f j n=>?_)
 replace j:IsPair f TO x y:=j
 refine ar (wJ (be (be ?_)));refine ar (mD j rfl ?_);refine ar (wpAny_newTuple ?_);have ak:f.objs.size=s.heap.objs.size:=by rw[n.1,m.1,i.1,h.1,g.1]
 have G:IsZip f z TI TO .ellipsis:=n.extBut _ _ D.TOz.symm (m.extBut _ _ D.i2z.symm (i.extBut _ _ D.TOz.symm (h.extBut _ _ D.i1z.symm q)));have U:∀c o,c≠z->c≠TO->c≠L->c≠M->s.heap.get? c=some o->f.get? c=some o:=fun c o Y c2 c3 c4 e =>
  n.extBut _ _ c2 (m.extBut _ _ c4 (i.extBut _ _ c2 (h.extBut _ _ c3 (g.extBut _ _ Y e))))
 have ab:f.IsTupleIter L l1 (k1+1):=((O.extBut i.extBut D.TOi1.symm).extBut m.extBut D.i12).extBut n.extBut D.TOi1.symm;have ai:f.IsTupleIter M l2 (k2+1):=T.extBut n.extBut D.TOi2.symm;have al:z<f.objs.size:=aQ G;show wpAny _ _ (cT.SmallTypes.ownedTupleHandOut (.ref z) (.ref f.objs.size) >>= _) _ _ _;refine ar ?_;unfold cT.SmallTypes.ownedTupleHandOut;have aj:IsZip (f.push { cls:=.type "tuple",data:=.seq #[x,y] }) z TI TO .ellipsis:=bh _ G;refine ar (pE aj (by simp) fun m₇ u H=>?_)
 replace u:IsZip m₇ z TI TO (rawInt f.objs.size):=u
 refine pE u (by simp) fun p l I=>?_
 replace l:IsZip p z TI TO (rawInt f.objs.size):=l
 have up:∀c o,c≠z->f.get? c=some o->p.get? c=some o:=fun c o Y e=>I.extBut _ _ Y (H.extBut _ _ Y (bh _ e));have J:IsPair p f.objs.size x y:=I.extBut _ _ (eV al) (H.extBut _ _ (eV al) (dJ _ rfl));have an:p.objs.size=f.objs.size+1:=by rw[I.1,H.1,kP]
 rw[ak]at l J an;refine be ⟨_,rfl,?_⟩;show Q (.ref f.objs.size) _;rw[ak];refine k p l (up _ _ D.TOz j) ?_ ?_ J an fun c o Y c2 c3 c4 e=>up c o Y (U c o Y c2 c3 c4 e)
 ·obtain⟨o,e,r⟩:=ab;exact⟨o,up _ o D.i1z e,r⟩
 ·obtain⟨o,e,r⟩:=ai;exact⟨o,up _ o D.i2z e,r⟩
theorem Ew{z TI TO v y J L:Addr}{M N:Nat}{xs O:Array Value}{a b:Value}{Q:Fin->Shared->Prop}(hh:A.handled=none)(D:pF z TI TO v y J L)
  (B:IsZip s.heap z TI TO .none) (gI:IsPair s.heap TI (.ref v) (.ref y)) (gO:IsPair s.heap TO a b)
  (g1:s.heap.IsTupleIter v J M) (g2:s.heap.IsTupleIter y L N) (t1:s.heap.IsTuple J xs) (t2:s.heap.IsTuple L O) (T:xs[M]?=none∨O[N]?=none)
  (k:∀U e,(∀c o,c≠z->c≠TO->c≠v->c≠y->s.heap.get? c=some o->U.get? c=some o)->(∃o,U.get? e=some o/\o.cls=.type "StopIteration")->E (.ref e) { s with heap:=U }) :
  wpAny (model prog w) A (cT.«zip.__next__» ⟨[.ref z],[]⟩) Q E s:=by
 show wpAny _ _ (field (.ref z) 2 >>= _) _ _ _;refine ar (cx B rfl (x:=.bool false) rfl ?_);show wpAny _ _ (field (.ref z) 3 >>= _) _ _ _;refine ar (cx B rfl (x:=.ref TI) rfl ?_);refine ar (mD gI rfl ?_);show wpAny _ _ (wK (.ref z) >>= _) _ _ _;refine ar ?_;unfold wK;refine ar (cx B rfl (x:=.none) rfl (be ?_));simp only[if_true];refine ar (rk ?_);refine ar (cx B rfl (x:=.ref TO) rfl ?_);refine ar (pE B (by simp) fun m₁ i f=>?_)
 replace i:IsZip m₁ z TI TO .ellipsis:=i
 refine ar ?_;simp only[List.zipIdx_cons,List.zipIdx_nil,tj,List.forIn_nil];refine ar (ar (sY ?_));show wpAny _ _ (kY (.ref v) >>= _) _ _ _;cases hx:xs[M]? with
 |none =>
  refine ar (rB hh (g1.extBut f.extBut D.i1z) (t1.extBut f.extBut D.l1z) hx fun m₂ e g Y=>?_);obtain⟨oe,t,C⟩:=Y;have j:IsZip m₂ z TI TO .ellipsis:=g _ _ D.i1z.symm i;have u:e≠z:=fun q=>by subst q;rw[j]at t;cases t;simp at C
  refine pE j (by simp) fun n _ h=>k n e (fun c o G _ c3 _ q=>h.extBut _ _ G (g _ _ c3 (f.extBut _ _ G q))) ⟨oe,h.extBut _ _ u t,C⟩
 |some x =>
  have hy:O[N]?=none:=by rcases T with q|q;rw[hx]at q;cases q;exact q
  refine ar (ky (g1.extBut f.extBut D.i1z) (t1.extBut f.extBut D.l1z) hx fun m₂ ab g=>be ?_);have l:IsPair m₂ TO a b:=g.extBut _ _ D.TOi1 (f.extBut _ _ D.TOz gO);refine ar (mD l rfl ?_);refine ar (wpAny_updateSeq_pair l fun n ai h=>?_);refine ar (wJ (be ?_));refine ar (ar (sY ?_));show wpAny _ _ (kY (.ref y) >>= _) _ _ _;refine ar (rB hh (((g2.extBut f.extBut D.i2z).extBut g.extBut D.i12.symm).extBut h.extBut D.TOi2.symm)
   (((t2.extBut f.extBut D.l2z).extBut g.extBut D.l2i1).extBut h.extBut D.l2TO) hy fun H e p Y=>?_)
  obtain⟨oe,t,C⟩:=Y;have m:IsZip H z TI TO .ellipsis:=p _ _ D.i2z.symm (h.extBut _ _ D.TOz.symm (g.extBut _ _ D.i1z.symm i));have u:e≠z:=fun q=>by subst q;rw[m]at t;cases t;simp at C
  refine pE m (by simp) fun I _ r=>k I e (fun c o G c2 c3 c4 q=>r.extBut _ _ G (p _ _ c4 (h.extBut _ _ c2 (g.extBut _ _ c3 (f.extBut _ _ G q))))) ⟨oe,r.extBut _ _ u t,C⟩
theorem vm{z TI TO f g h i:Addr}{j l:Nat}{xs ys:Array Value}{x y a b:Value}{Q:Option Value->Shared->Prop}(D:pF z TI TO f g h i)
  (m:IsZip s.heap z TI TO .none) (p:IsPair s.heap TI (.ref f) (.ref g)) (q:IsPair s.heap TO a b)
  (r:s.heap.IsTupleIter f h j) (t:s.heap.IsTupleIter g i l) (u:s.heap.IsTuple h xs) (v:s.heap.IsTuple i ys) (hx:xs[j]?=some x) (B:ys[l]?=some y)
  (k:∀e,IsZip e z TI TO (rawInt s.heap.objs.size)->IsPair e TO x y->e.IsTupleIter f h (j+1)->e.IsTupleIter g i (l+1)->IsPair e s.heap.objs.size x y->e.objs.size=s.heap.objs.size+1 ->
   (∀c o,c≠z->c≠TO->c≠f->c≠g->s.heap.get? c=some o->e.get? c=some o)->Q (some (.ref s.heap.objs.size)) { s with heap:=e }) :
  wpAny (model prog w) A (pyNext (.ref z)) Q E s:=by
 have n:s.TypeIs (.ref z) "zip":=⟨_,m,rfl⟩;unfold pyNext;exact ar (wpAny_attempt (wN (name:=wM "__next__") n wI
  (C9 wI n F.entry_zip_next
   (C_ D m p q r t u v hx B fun e a1 a2 a3 C G H I=>be (k e a1 a2 a3 C G H I)) (F.args_zip_next_1 _))))
theorem xU{z TI TO f g h i:Addr}{m n:Nat}{xs ys:Array Value}{a b:Value}{Q:Option Value->Shared->Prop}(r:A.handled=none)(D:pF z TI TO f g h i)
  (p:IsZip s.heap z TI TO .none) (t:IsPair s.heap TI (.ref f) (.ref g)) (u:IsPair s.heap TO a b)
  (v:s.heap.IsTupleIter f h m) (x:s.heap.IsTupleIter g i n) (y:s.heap.IsTuple h xs) (B:s.heap.IsTuple i ys) (j:xs[m]?=none∨ys[n]?=none)
  (k:∀l,(∀c o,c≠z->c≠TO->c≠f->c≠g->s.heap.get? c=some o->l.get? c=some o)->Q none { s with heap:=l }):wpAny (model prog w) A (pyNext (.ref z)) Q E s:=by
 have q:s.TypeIs (.ref z) "zip":=⟨_,p,rfl⟩;unfold pyNext;refine ar (wpAny_attempt (wN (name:=wM "__next__") q wI
  (C9 wI q F.entry_zip_next (Ew r D p t u v x y B j fun l e kp C=>?_) (F.args_zip_next_1 _))))
 obtain⟨o,G,H⟩:=C;refine ar (wpAny_isInstance (T:="StopIteration") (b:=true) ⟨o,G,H⟩ isSubtype_stop ?_);exact be (k _ kp)
end
abbrev K6(h:Heap)(l1:Addr):Heap:=h.push { cls:=.type "tuple_iterator",data:=.fields #[.ref l1,.int 0 0] }
abbrev K5(h:Heap)(l1 l2:Addr):Heap:=(K6 h l1).push { cls:=.type "tuple_iterator",data:=.fields #[.ref l2,.int 0 0] }
abbrev K4(h:Heap)(l1 l2:Addr):Heap:=(K5 h l1 l2).push { cls:=.type "tuple",data:=.seq #[.ref h.objs.size,.ref (K6 h l1).objs.size] }
abbrev K3(h:Heap)(l1 l2:Addr):Heap:=(K4 h l1 l2).push { cls:=.type "tuple",data:=.seq #[.none,.none] }
abbrev J9(h:Heap)(l1 l2:Addr):Heap:=(K3 h l1 l2).push { cls:=.type "zip",data:=.fields #[.none,.bool false,.bool false,.ref (K5 h l1 l2).objs.size,.ref (K4 h l1 l2).objs.size] }
theorem Bg(l1 l2:Addr)(xs a:Array Value):
  Meets (cT.«zip.__new__» ⟨[.type "zip",.ref l1,.ref l2],[]⟩) (fun _ R s=>s.heap.IsTuple l1 xs/\s.heap.IsTuple l2 a /\
   R (.ok (.ret (.ref (K3 s.heap l1 l2).objs.size))) { s with heap:=J9 s.heap l1 l2 }) :=
 .of_wp fun e w A R s h=>by
  obtain⟨f,g,d,tk,os⟩:=s;obtain⟨j,k,h⟩:=h;have i:=sub_zip;have l:Heap.IsTuple (Shared.heap ⟨f,g,d,tk,os⟩) l1 xs:=j;have m:Heap.IsTuple (Shared.heap ⟨f.push { cls:=.type "tuple_iterator",data:=.fields #[.ref l1,.int 0 0] },g,d,tk,os⟩) l2 a:=Heap.IsTuple.push k _
  wp_walk using BZ l,BZ m
  exact⟨_,rfl,h⟩
section
variable{prog:bF}{w:World}{A:Around}{E:Zc}{s:Shared}
theorem Ea{a e:Addr}{xs ys:Array Value}{Q:Zc}(r:s.heap.IsTuple a xs)(t:s.heap.IsTuple e ys)
  (k:∀f,IsZip f (s.heap.objs.size+4) (s.heap.objs.size+2) (s.heap.objs.size+3) .none->IsPair f (s.heap.objs.size+2) (.ref s.heap.objs.size) (.ref (s.heap.objs.size+1)) ->
   IsPair f (s.heap.objs.size+3) .none .none->f.IsTupleIter s.heap.objs.size a 0->f.IsTupleIter (s.heap.objs.size+1) e 0->(∀c o,s.heap.get? c=some o->f.get? c=some o)->Q (.ref (s.heap.objs.size+4)) { s with heap:=f }) :
  wpAny (model prog w) A (call (.type "zip") [.ref a,.ref e]) Q E s:=by
 refine callType_new F.called_zip (by decide) (F.typeCall_zip_2 _ _) (F.newCall_zip_2 _ _) (fun g=>F.args_object_init_3 g _ _) F.entry_zip_new
  (Bg a e xs ys) ⟨r,t,?_⟩
 have h:(K6 s.heap a).objs.size=s.heap.objs.size+1:=kP ..;have i:(K5 s.heap a e).objs.size=s.heap.objs.size+2:=by rw[kP,h]
 have j:(K4 s.heap a e).objs.size=s.heap.objs.size+3:=by rw[kP,i]
 have m:(K3 s.heap a e).objs.size=s.heap.objs.size+4:=by rw[kP,j]
 have l:(J9 s.heap a e).get? (K3 s.heap a e).objs.size=some _:=dJ _ rfl;have n:(J9 s.heap a e).get? (K4 s.heap a e).objs.size=some _:=bh _ (dJ _ rfl);have p:(J9 s.heap a e).get? (K5 s.heap a e).objs.size=some _:=bh _ (bh _ (dJ _ rfl));have q:(J9 s.heap a e).get? (K6 s.heap a).objs.size=some _:=bh _ (bh _ (bh _ (dJ _ rfl)));have u:(J9 s.heap a e).get? s.heap.objs.size=some _:=bh _ (bh _ (bh _ (bh _ (dJ _ rfl))));show _/\_;rw[i,j,m]at l;rw[h,i]at p;rw[j]at n;rw[h]at q;rw[m];exact⟨⟨_,l,rfl⟩,k _ l p n ⟨_,u,rfl,rfl⟩ ⟨_,q,rfl,rfl⟩ fun c o x =>
  bh _ (bh _ (bh _ (bh _ (bh _ x))))⟩
end
def KS(K:Za)(a b:Addr):It :=
  ⟨fun i H=>∃xs ys x y,cq K H a xs/\cq K H b ys/\xs[i]?=some x/\ys[i]?=some y,
   fun i H x H'=>∃p u v,x=.ref p/\H p=none/\(∀xs,cq K H a xs->xs[i]?=some u)/\(∀ys,cq K H b ys->ys[i]?=some v)/\H'=upd H p (.tup [u,v]),
   fun i H=>∃xs ys,cq K H a xs/\cq K H b ys/\(xs.length<=i∨ys.length<=i)⟩
theorem Df{P:bF}{w:World}{K:Za}{es:List Expr}{kx:Nat}{U1:Pos}(a b z TI TO t B:Addr)(D:pF z TI TO t B a b):
  vp P w K (.Tuple es kx U1) (KS K a b) [z,TI,TO,t,B] z (fun i h=>IsZip h z TI TO .none/\IsPair h TI (.ref t) (.ref B)/\(∃a b,IsPair h TO a b)/\h.IsTupleIter t a i/\h.IsTupleIter B b i) where
 mem:=by simp
 obj:=fun i h st c f=>by
  obtain⟨p,j,⟨u,v,l⟩,N,O⟩:=st;simp only[bw,iE,or_false]at f;rcases f with rfl|rfl|rfl|rfl|rfl
  ·exact⟨_,p,fun v z=>by cases z⟩
  ·exact⟨_,j,fun v z=>by cases z⟩
  ·exact⟨_,l,fun v z=>by cases z⟩
  ·obtain⟨o,e,c,d⟩:=N;exact⟨o,e,fun v z=>by rw[d]at z;cases z⟩
  ·obtain⟨o,e,c,d⟩:=O;exact⟨o,e,fun v z=>by rw[d]at z;cases z⟩
 keep:=fun i h Q st k=>by
  obtain⟨p,j,⟨u,v,l⟩,⟨o1,e1,r1⟩,⟨o2,e2,r2⟩⟩:=st;exact⟨k z (by simp) _ p,k TI (by simp) _ j,⟨u,v,k TO (by simp) _ l⟩,⟨o1,k t (by simp) o1 e1,r1⟩,⟨o2,k B (by simp) o2 e2,r2⟩⟩
 item:=by
  intro X hP hw hK f i J6 s σ H E I hf st hg;subst hP hw hK;obtain⟨p,j,⟨u0,v0,l⟩,N,O⟩:=st;obtain⟨xs,ys,x,y,G,J,hx,hy⟩:=hg;obtain⟨L,rx,px,zx⟩:=I.tuple G;obtain⟨M,ry,py,zy⟩:=I.tuple J;obtain⟨u,hu,ru⟩:=rx.get hx;obtain⟨v,hv,rv⟩:=ry.get hy;refine vm D p j l N O (xs:=L.toArray) (ys:=M.toArray) px py (x:=u) (y:=v) (by simpa using hu) (by simpa using hv) fun Q a1 a2 a3 a4 a5 a6 hk=>?_;refine⟨_,rfl,wpAny_letOwnedTupleGo_zip (s:={ s with heap:=Q }) a1 fun C al an=>?_⟩;have g:jH z Q C:=an;have T:s.heap.objs.size≠z:=eV (aQ p);have U:s.heap.objs.size≠TO:=eV (aQ l);have Y:s.heap.objs.size≠TI:=eV (aQ j);have ab:s.heap.objs.size≠t:=by obtain⟨o,ho,_⟩:=N;exact eV (aQ ho)
  have ai:s.heap.objs.size≠B:=by obtain⟨o,ho,_⟩:=O;exact eV (aQ ho)
  have aj:IsPair C s.heap.objs.size u v:=g.extBut _ _ T a5;have I2:Inv X J6 σ (upd H s.heap.objs.size (.tup [x,y])) { s with heap:=C,toks:=s.toks }:=by
   refine I.turnedNew (ch:=[z,TI,TO,t,B]) hf (fun c o f q=>?_) ⟨_,aj⟩ (fun _ z=>nomatch z) ⟨by show 2<=ao;decide,[u,v],.cons ru (.cons rv .nil),⟨_,aj,rfl,_,rfl⟩⟩;have n1:c≠z:=fun q=>f (by simp[q]);exact g.extBut _ _ n1 (hk c o n1 (fun q=>f (by simp[q])) (fun q=>f (by simp[q])) (fun q=>f (by simp[q])) q)
  have ap:C.IsTupleIter t a (i+1):=by obtain⟨o,e,r⟩:=a3;exact⟨o,g.extBut _ _ D.i1z e,r⟩
  have as:C.IsTupleIter B b (i+1):=by obtain⟨o,e,r⟩:=a4;exact⟨o,g.extBut _ _ D.i2z e,r⟩
  refine⟨.ref s.heap.objs.size,_,I2,rfl,⟨_,x,y,rfl,I.fresh,fun zs p=>by rw[I.tuple_inj p G];exact hx,fun zs p=>by rw[I.tuple_inj p J];exact hy,rfl⟩,⟨al,g.extBut _ _ D.TIz (hk _ _ D.TIz D.TITO D.TIi1 D.TIi2 j),⟨_,_,g.extBut _ _ D.TOz a2⟩,ap,as⟩,fun c f=>?_⟩;have aC:=(hf c f).1;simp only[bw,iE,or_false]at f;have ne:c≠s.heap.objs.size:=by
   rcases f with rfl|rfl|rfl|rfl|rfl
   ·exact T.symm
   ·exact Y.symm
   ·exact U.symm
   ·exact ab.symm
   ·exact ai.symm
  rw[am ne];exact aC
 done:=by
  intro X hP hw hK f i J6 s σ H E I hf st hg;subst hP hw hK;obtain⟨p,j,⟨u0,v0,l⟩,N,O⟩:=st;obtain⟨xs,ys,G,J,ak⟩:=hg;obtain⟨L,rx,px,zx⟩:=I.tuple G;obtain⟨M,ry,py,zy⟩:=I.tuple J;have lx:=rx.length;have ly:=ry.length;refine xU (I.ok.hd f) D p j l N O (xs:=L.toArray) (ys:=M.toArray) px py (by rcases ak with q|q;exact .inl (by simp;omega);exact .inr (by simp;omega)) fun Q hk=>⟨rfl,?_⟩;have tr:∀c q,H c=some q->c∉[z,TI,TO,t,B]:=fun c q e m=>by rw[(hf c m).1]at e;cases e
  have kk:∀c o,c∉[z,TI,TO,t,B]->s.heap.get? c=some o->Q.get? c=some o:=fun c o f q=>hk c o (fun q=>f (by simp[q])) (fun q=>f (by simp[q])) (fun q=>f (by simp[q])) (fun q=>f (by simp[q])) q;refine I.step (g':=s.gens) (d':=s.drawn) (t':=s.toks) (ch:=[z,TI,TO,t,B]) (fun c f=>?_) (fun c o _ _ f e _=>kk c o f e) (fun c o _ _ f e _=>⟨o.slots,kk c o f e⟩) (fun _ _ _ _ n=>n) (fun c o f e=>⟨o,kk c o f e⟩) (fun _ _ e=>e) (fun _ _ _ e=>e) (fun c ps e=>⟨#[],by rw[e];simp⟩) (fun m hm=>?_) (fun c q e=>?_) I.bare
  ·obtain⟨f0,f1,f2,f3,f4,f5⟩:=hf c f;exact⟨f3,f1,f4,f5⟩
  ·obtain⟨q,aH,ep,ho,r⟩:=hm;exact⟨q,aH,ep,kk _ q (fun z=>(hf _ z).2.1 rfl) ho,r⟩
  ·refine(I.hok c q e).stay (fun d v hd q'=>kk d v ?_ q') (fun _ q=>q) fun _ _ q=>q;rcases hd with z|z
   ·subst z;exact tr _ _ e
   ·exact tr _ _ z
 self:=fun _ _ _ _ _ st h=>wO st.1 h
section
variable{X:Cx}{p pos:Pos}{es:List Expr}{kx:Nat}{U1:Pos}
def CP(K:Za)(ta:TA):TI:=fun σ H R=>ta σ H fun vs H1=>∃a b,vs=[.ref a,.ref b]/\(((∃xs,aA K H1 a xs)/\(∃ys,aA K H1 b ys)/\R (Itz K a b) H1)∨((∃xs,cq K H1 a xs)/\(∃ys,cq K H1 b ys)/\R (KS K a b) H1))
theorem Hh{a b:Expr}{L:TA}(Q:Gl X "zip")(T:X.mg "zip"=none)(U:PA X [a,b] L)(Y:aB [a,b] X.env=[(false,eval a X.env),(false,eval b X.env)]:=by rfl)(j:aB [b] X.env=[(false,eval b X.env)]:=by rfl):
  PI X (.Tuple es kx U1) (.Call (.Name "zip" p) [a,b] [] pos) (CP X.K L):=by
 intro x s σ H R I h;refine Call_ (qt I Q T boot_zip (BY (cA (U pos x s σ H _ I h) fun us s1 y=>?_) (by rw[Y,j]) (by rw[j];rfl)));obtain⟨vs,k,f,r1,q1⟩:=y;obtain⟨M,N,e,q⟩:=q1;subst e;obtain⟨u,v,rfl,ru,rv⟩:=vals2 r1;cases ru;cases rv;have l:∀b∈[s1.heap.objs.size+4,s1.heap.objs.size+2,s1.heap.objs.size+3,s1.heap.objs.size,s1.heap.objs.size+1],lN X x k b:=fun b O=>by
  have m:s1.heap.objs.size<=b:=by
   simp only[bw,iE,or_false]at O;rcases O with rfl|rfl|rfl|rfl|rfl<;>omega
  exact f.fpOk m (f.hok.fresh m)
 rcases q with⟨⟨xs,hx⟩,⟨ys,z⟩,q⟩|⟨⟨xs,hx⟩,⟨ys,z⟩,q⟩
 ·obtain⟨n,rx,r,zx⟩:=f.list hx;obtain⟨t,ry,w,zy⟩:=f.list z;obtain⟨o1,n1,B,_⟩:=id r;obtain⟨o2,n2,C,_⟩:=id w;refine call_zip_2 r.isList w.isList fun g a1 a2 a3 D E a6 G=>?_;refine wO (s:={ s1 with heap:=g }) a1 ?_;have i:∀b o,s1.heap.get? b=some o->g.get? b=some o:=G;have J:Inv X x σ k { s1 with heap:=g }:=f.kept (t':=s1.toks) i;exact⟨_,_,_,_,k,rfl,J,EE M N _ _ _ _ _ (zipApart_new (aQ B) (aQ C)),⟨a1,a2,⟨_,_,a3⟩,D,E⟩,l,q⟩
 ·obtain⟨n,rx,r,zx⟩:=f.tuple hx;obtain⟨t,ry,w,zy⟩:=f.tuple z;obtain⟨o1,B,_⟩:=id r;obtain⟨o2,C,_⟩:=id w;refine Ea (xs:=n.toArray) (ys:=t.toArray) r w fun g a1 a2 a3 D E G=>?_;refine wO (s:={ s1 with heap:=g }) a1 ?_;have i:∀b o,s1.heap.get? b=some o->g.get? b=some o:=G;have J:Inv X x σ k { s1 with heap:=g }:=f.kept (t':=s1.toks) i;exact⟨_,_,_,_,k,rfl,J,Df M N _ _ _ _ _ (zipApart_new (aQ B) (aQ C)),⟨a1,a2,⟨_,_,a3⟩,D,E⟩,l,q⟩
end
inductive DT where
 |k (a:eE)
 |t (l:List DT)
 |s (l:List DT)
mutual
def IG:(x y:DT)->Decidable (x=y)
 |.k a,.k b=>if h:a=b then Decidable.isTrue (by rw[h])else Decidable.isFalse fun e=>h (by injection e)
 |.t l,.t m=>match decDTs l m with
  |Decidable.isTrue h=>Decidable.isTrue (by rw[h])
  |Decidable.isFalse h=>Decidable.isFalse fun e=>h (by injection e)
 |.s l,.s m=>match decDTs l m with
  |Decidable.isTrue h=>Decidable.isTrue (by rw[h])
  |Decidable.isFalse h=>Decidable.isFalse fun e=>h (by injection e)
 |.k _,.t _=>Decidable.isFalse nofun
 |.k _,.s _=>Decidable.isFalse nofun
 |.t _,.k _=>Decidable.isFalse nofun
 |.t _,.s _=>Decidable.isFalse nofun
 |.s _,.k _=>Decidable.isFalse nofun
 |.s _,.t _=>Decidable.isFalse nofun
def decDTs:(x y:List DT)->Decidable (x=y)
 |[],[]=>Decidable.isTrue rfl
 |[],_::_=>Decidable.isFalse nofun
 |_::_,[]=>Decidable.isFalse nofun
 |a::l,b::m=>match IG a b with
  |Decidable.isTrue h=>match decDTs l m with
   |Decidable.isTrue h'=>Decidable.isTrue (by rw[h,h'])
   |Decidable.isFalse h'=>Decidable.isFalse fun e=>h' (by injection e)
  |Decidable.isFalse h=>Decidable.isFalse fun e=>h (by injection e)
end
instance:DecidableEq DT:=IG
mutual
def DT.depth:DT->Nat
 |.k _=>0
 |.t l=>DT.depths l+1
 |.s l=>DT.depths l+1
def DT.depths:List DT->Nat
 |[]=>0
 |a::r=>max (DT.depth a) (DT.depths r)
end
mutual
def sN(h:Heap):DT->Value->Prop
 |.k a,v=>dD a v=true
 |.t l,v=>∃a items,v=.ref a/\h.IsTuple a items/\DAts h l items.toList
 |.s l,v=>∃a items,v=.ref a/\h.IsList a items/\DAts h l items.toList
def DAts(h:Heap):List DT->List Value->Prop
 |[],vs=>vs=[]
 |k::r,vs=>∃v us,vs=v::us/\sN h k v/\DAts h r us
end
theorem DAts.length{h:Heap}:∀{xs:List DT}{a:Zf},DAts h xs a->xs.length=a.length
 |[],a,e=>by have f:a=[]:=e;rw[f];rfl
 |x::xs,a,e=>by
  obtain⟨v,i,rfl,_,g⟩:=e;simp[DAts.length g]
theorem DAts.get{h:Heap}:∀{xs:List DT}{a:Zf}{i:Nat}{v:Value},DAts h xs a->a[i]?=some v->∃x,xs[i]?=some x/\sN h x v
 |[],a,i,v,e,q=>by have f:a=[]:=e;subst f;simp at q
 |x::xs,a,i,v,e,q=>by
  obtain⟨u,m,rfl,g,j⟩:=e;cases i with
  |zero =>
   simp at q;subst q;exact⟨x,rfl,g⟩
  |succ i =>
   obtain⟨y,k,l⟩:=DAts.get j (i:=i) (v:=v) (by simpa using q);exact⟨y,by simpa using k,l⟩
theorem DT.depths_get{l:List DT}{x:DT}{i d:Nat}(h:DT.depths l<=d)(e:l[i]?=some x):x.depth<=d:=by
 induction l generalizing i with
 |nil=>simp at e
 |cons a r f =>
  have g:max a.depth (DT.depths r)<=d:=h;cases i with
  |zero=>simp at e;subst e;omega
  |succ i=>exact f (by omega) (by simpa using e)
theorem Bq{h:Heap}{a:Addr}{i j:Array Value}(x:h.IsList a i)(y:h.IsList a j):i=j:=by
 obtain⟨o,g,_,n,k⟩:=x;obtain⟨l,e,_,m,f⟩:=y;rw[g]at e;cases e;rw[k]at f;injection f
theorem zS{h:Heap}{a:Addr}{i j:Array Value}(x:h.IsTuple a i)(y:h.IsTuple a j):i=j:=by
 obtain⟨o,g,_,n,k⟩:=x;obtain⟨l,e,_,m,f⟩:=y;rw[g]at e;cases e;rw[k]at f;injection f
theorem jQ{h:Heap}{a:Addr}{i j:Array Value}(x:h.IsList a i)(y:h.IsTuple a j):False:=by
 obtain⟨o,g,k,_⟩:=x;obtain⟨l,e,f,_⟩:=y;rw[g]at e;cases e;rw[k]at f;simp at f
theorem v8{a b:eE}{v:Value}(g:dD a v=true)(f:dD b v=true):a=b:=by
 rcases aD g with⟨i,t,rfl,rfl⟩|⟨i,t,rfl,rfl⟩
 ·rcases aD f with⟨j,u,rfl,e⟩|⟨j,u,rfl,e⟩
  ·cases e;rfl
  ·cases e
 ·rcases aD f with⟨j,u,rfl,e⟩|⟨j,u,rfl,e⟩
  ·cases e
  ·cases e;rfl
theorem iA{a:eE}{b:Addr}(h:dD a (.ref b)=true):False:=by
 rcases aD h with⟨_,_,_,e⟩|⟨_,_,_,e⟩<;>cases e
theorem sN.inj{h:Heap}:∀(d:Nat) {x y:DT}{v:Value},x.depth<=d->sN h x v->sN h y v->x=y:=by
 have p:∀(d:Nat) (q:∀{x y:DT}{v:Value},x.depth<=d->sN h x v->sN h y v->x=y) (xs g:List DT) (r:Zf),DT.depths xs<=d->DAts h xs r->DAts h g r->xs=g:=by
  intro d q xs
  induction xs with
  |nil =>
   intro g r _ hx f;have u:r=[]:=hx;subst u;cases g with
   |nil=>rfl
   |cons y g=>obtain⟨_,_,e,_⟩:=f;cases e
  |cons x xs w =>
   intro g r n hx f;obtain⟨v,I,rfl,z,B⟩:=hx;cases g with
   |nil=>have C:v::I=[]:=f;cases C
   |cons y g =>
    obtain⟨M,J,e,D,E⟩:=f;cases e;have L:max x.depth (DT.depths xs)<=d:=n;rw[q (by omega) z D,w g I (by omega) B E]
 intro d
 induction d with
 |zero =>
  intro x y v n hx f;cases x with
  |t l=>exact absurd n (by show ¬(DT.depths l+1<=0);omega)
  |s l=>exact absurd n (by show ¬(DT.depths l+1<=0);omega)
  |k a =>
   cases y with
   |k b=>rw[v8 hx f]
   |t l=>obtain⟨b,_,rfl,_⟩:=f;exact(iA hx).elim
   |s l=>obtain⟨b,_,rfl,_⟩:=f;exact(iA hx).elim
 |succ d q =>
  intro x y v n hx f;cases x with
  |k a =>
   cases y with
   |k b=>rw[v8 hx f]
   |t l=>obtain⟨b,_,rfl,_⟩:=f;exact(iA hx).elim
   |s l=>obtain⟨b,_,rfl,_⟩:=f;exact(iA hx).elim
  |t l =>
   obtain⟨a,i,rfl,hi,hx⟩:=hx;cases y with
   |k b=>exact(iA f).elim
   |t m =>
    obtain⟨G,j,e,o,f⟩:=f;cases e;rw[zS o hi]at f;rw[p d (fun H=>q H) l m i.toList (by have:DT.depths l+1<=d+1:=n;omega) hx f]
   |s m =>
    obtain⟨G,j,e,o,f⟩:=f;cases e;exact(jQ o hi).elim
  |s l =>
   obtain⟨a,i,rfl,hi,hx⟩:=hx;cases y with
   |k b=>exact(iA f).elim
   |s m =>
    obtain⟨G,j,e,o,f⟩:=f;cases e;rw[Bq o hi]at f;rw[p d (fun H=>q H) l m i.toList (by have:DT.depths l+1<=d+1:=n;omega) hx f]
   |t m =>
    obtain⟨G,j,e,o,f⟩:=f;cases e;exact(jQ hi o).elim
theorem gb{l m:List DT}(f:l.length=m.length):((nV l.length).all fun j=>decide (l[j]?=m[j]?))=decide (l=m):=by
 by_cases e:l=m
 ·subst e;simp
 ·rw[zzr0 e];rw[List.all_eq_false];apply Classical.byContradiction;intro h;apply e;apply List.ext_getElem?;intro i;by_cases hi:i<l.length
  ·apply Classical.byContradiction;intro a;exact h ⟨i,List.mem_range.mpr hi,by simpa using a⟩
  ·rw[List.getElem?_eq_none (by omega),List.getElem?_eq_none (by omega)]
section
variable{s:Shared}
theorem IA:∀(d:Nat) {A:Around}{x y:DT}{u v:Value},y.depth<=d->A.units+d<cLine->sN s.heap x u->sN s.heap y v->bp A s u v (decide (x=y)):=by
 have leaves:∀{A:Around}{a b:eE}{u v:Value},dD a u=true->dD b v=true->bp A s u v (decide (DT.k a=DT.k b)):=by
  intro A a b u v B G;have J:decide (DT.k a=DT.k b)=decide (a=b):=by
   by_cases e:a=b
   ·subst e;simp
   ·have:¬(DT.k a=DT.k b):=fun z=>e (by injection z);rw[zzr0 this,zzr0 e]
  rw[J];rcases aD B with⟨i,t,rfl,rfl⟩|⟨i,t,rfl,rfl⟩
  ·rcases aD G with⟨j,u,rfl,rfl⟩|⟨j,u,rfl,rfl⟩
   ·rw[xZ];exact bp.int_int i t j u
   ·rw[xY];exact bp.int_str i t j u
  ·rcases aD G with⟨j,u,rfl,rfl⟩|⟨j,u,rfl,rfl⟩
   ·rw[xX];exact bp.str_int i t j u
   ·rw[xW];have:=bp.str_str (A:=A) (s:=s) i t j u;rwa[show(i==j)=decide (i=j)from by by_cases e:i=j<;>simp[e]]at this
 have kt:∀{A:Around}{a:eE}{u:Value}{b:Addr}{items:Array Value},A.units<cLine->dD a u=true->s.heap.IsTuple b items->bp A s u (.ref b) false/\bp A s (.ref b) u false:=by
  intro A a u b items h B w;rcases aD B with⟨i,t,rfl,rfl⟩|⟨i,t,rfl,rfl⟩
  ·exact⟨bp.int_tuple i t w h,bp.tuple_int i t w h⟩
  ·exact⟨bp.str_tuple i t w h,bp.tuple_str i t w h⟩
 have L:∀{A:Around}{a:eE}{u:Value}{b:Addr}{items:Array Value},A.units<cLine->dD a u=true->s.heap.IsList b items->bp A s u (.ref b) false/\bp A s (.ref b) u false:=by
  intro A a u b items h B w;rcases aD B with⟨i,t,rfl,rfl⟩|⟨i,t,rfl,rfl⟩
  ·exact⟨bp.int_list i t w h,bp.list_int i t w h⟩
  ·exact⟨bp.str_list i t w h,bp.list_str i t w h⟩
 intro d
 induction d with
 |zero =>
  intro A x y u v o h hx f;cases y with
  |t l=>exact absurd o (by show ¬(DT.depths l+1<=0);omega)
  |s l=>exact absurd o (by show ¬(DT.depths l+1<=0);omega)
  |k b =>
   cases x with
   |t l =>
    obtain⟨a,i,rfl,hi,_⟩:=hx;rw[zzr0 (by intro z;cases z)];exact(kt (by omega) f hi).2
   |s l =>
    obtain⟨a,i,rfl,hi,_⟩:=hx;rw[zzr0 (by intro z;cases z)];exact(L (by omega) f hi).2
   |k a=>exact leaves hx f
 |succ d Q =>
  intro A x y u v o h hx f;have items:∀{l m:List DT}{i j:Array Value},DT.depths m<=d->DAts s.heap l i.toList->DAts s.heap m j.toList->∀n (B:n<i.size) (G:n<j.size),bp A.in1 s i[n] j[n] (decide (l[n]?=m[n]?)):=by
   intro l m i j H hi p n B G;obtain⟨x,ex,hx⟩:=hi.get (i:=n) (v:=i[n]) (by simp[B]);obtain⟨y,O,f⟩:=p.get (i:=n) (v:=j[n]) (by simp[G]);rw[ex,O];have J:decide ((some x:Option DT)=some y)=decide (x=y):=by
    by_cases e:x=y
    ·subst e;simp
    ·rw[zzr0 e,zzr0 fun z=>e (d4 z)]
   rw[J];exact Q (DT.depths_get H O) (by show A.units+1+d<cLine;omega) hx f
  cases x with
  |k a =>
   cases y with
   |k b=>exact leaves hx f
   |t l =>
    obtain⟨b,i,rfl,hi,_⟩:=f;rw[zzr0 (by intro z;cases z)];exact(kt (by omega) hx hi).1
   |s l =>
    obtain⟨b,i,rfl,hi,_⟩:=f;rw[zzr0 (by intro z;cases z)];exact(L (by omega) hx hi).1
  |t l =>
   have C:=hx;obtain⟨a,i,rfl,hi,hx⟩:=hx;cases y with
   |k b =>
    rw[zzr0 (by intro z;cases z)];exact(kt (by omega) f hi).2
   |s m =>
    obtain⟨b,j,rfl,p,_⟩:=f;rw[zzr0 (by intro z;cases z)];exact bp.tuple_list hi p (by omega)
   |t m =>
    have H:DT.depths m<=d:=by have:DT.depths m+1<=d+1:=o;omega
    have D:=f;obtain⟨b,j,rfl,p,f⟩:=f;by_cases g:a=b
    ·subst g;have e:DT.t l=DT.t m:=sN.inj _ (aG _) C D;rw[zzr1 e];exact bp.same _
    ·have r:=SeqAt.RcAt.tuples (A:=A) hi p (by omega) (items H hx f);have I:=hx.length;have M:=f.length;simp only[rg]at I M;have q:((nV (min i.size j.size)).all (fun n=>decide (l[n]?=m[n]?)) && i.size==j.size)=decide (DT.t l=DT.t m):=by
      by_cases e:l.length=m.length
      ·have N:i.size=j.size:=by omega
       rw[<-N,Nat.min_self,<-I,gb e];by_cases E:l=m
       ·subst E;simp
       ·have:¬(DT.t l=DT.t m):=fun z=>E (by injection z);rw[zzr0 this,zzr0 E];rfl
      ·have N:(i.size==j.size)=false:=by simp;omega
       have:¬(DT.t l=DT.t m):=fun z=>e (by injection z with z;rw[z]);rw[N,zzr0 this,wH]
     rw[q]at r;exact .of_refs g r
  |s l =>
   have C:=hx;obtain⟨a,i,rfl,hi,hx⟩:=hx;cases y with
   |k b =>
    rw[zzr0 (by intro z;cases z)];exact(L (by omega) f hi).2
   |t m =>
    obtain⟨b,j,rfl,p,_⟩:=f;rw[zzr0 (by intro z;cases z)];exact bp.list_tuple hi p (by omega)
   |s m =>
    have H:DT.depths m<=d:=by have:DT.depths m+1<=d+1:=o;omega
    have D:=f;obtain⟨b,j,rfl,p,f⟩:=f;by_cases g:a=b
    ·subst g;have e:DT.s l=DT.s m:=sN.inj _ (aG _) C D;rw[zzr1 e];exact bp.same _
    ·have I:=hx.length;have M:=f.length;simp only[rg]at I M;by_cases e:l.length=m.length
     ·have r:=SeqAt.RcAt.lists (A:=A) hi p (by omega) (by omega) (items H hx f);rw[<-I,gb e]at r;have q:decide (l=m)=decide (DT.s l=DT.s m):=by
       by_cases E:l=m
       ·subst E;simp
       ·have:¬(DT.s l=DT.s m):=fun z=>E (by injection z);rw[zzr0 this,zzr0 E]
      rw[q]at r;exact .of_refs g r
     ·have:¬(DT.s l=DT.s m):=fun z=>e (by injection z with z;rw[z]);rw[zzr0 this];exact .of_refs g (SeqAt.RcAt.lists_lengths hi p (by simp;omega) (by omega))
end
theorem CZ(a b:eE):decide (DT.k a=DT.k b)=decide (a=b):=by
 by_cases e:a=b
 ·subst e;simp
 ·rw[zzr0 e,zzr0 fun z=>e (by injection z)]
theorem ID(l m:List DT):decide (DT.t l=DT.t m)=decide (l=m):=by
 by_cases e:l=m
 ·subst e;simp
 ·rw[zzr0 e,zzr0 fun z=>e (by injection z)]
theorem IE(l m:List DT):decide (DT.s l=DT.s m)=decide (l=m):=by
 by_cases e:l=m
 ·subst e;simp
 ·rw[zzr0 e,zzr0 fun z=>e (by injection z)]
theorem Go(x y:DT):decide ((some x:Option DT)=some y)=decide (x=y):=by
 by_cases e:x=y
 ·subst e;simp
 ·rw[zzr0 e,zzr0 fun z=>e (d4 z)]
section
variable{A:Around}{s:Shared}
theorem oZ{d:Nat}(g:A.units+1+d<cLine){l m:List DT}{i j:Array Value}(h:DT.depths m<=d)(hi:DAts s.heap l i.toList)(k:DAts s.heap m j.toList):
  ∀n (a:n<i.size) (e:n<j.size),bp A.in1 s i[n] j[n] (decide (l[n]?=m[n]?)):=by
 intro n a e;obtain⟨x,ex,hx⟩:=hi.get (i:=n) (v:=i[n]) (by simp[a]);obtain⟨y,f,o⟩:=k.get (i:=n) (v:=j[n]) (by simp[e]);rw[ex,f,Go];exact IA d (DT.depths_get h f) g hx o
theorem Cb{l m:List DT}{i j:Array Value}(hi:DAts s.heap l i.toList)(g:DAts s.heap m j.toList):((nV (min i.size j.size)).all (fun n=>decide (l[n]?=m[n]?)) && i.size==j.size)=decide (l=m):=by
 have f:=hi.length;have h:=g.length;simp only[rg]at f h;by_cases e:l.length=m.length
 ·have a:i.size=j.size:=by omega
  rw[<-a,Nat.min_self,<-f,gb e];simp
 ·have a:(i.size==j.size)=false:=by simp;omega
  rw[a,zzr0 fun z=>e (by rw[z]),wH]
theorem KG{x y:DT}{u v:Value}(o:y.depth<=14)(w:A.units+16<cLine)(hx:sN s.heap x u)(f:sN s.heap y v):SeqAt.RcAt A s u v (decide (x=y)):=by
 cases x with
 |k a =>
  rcases aD (show dD a u=true from hx)with⟨i,t,rfl,rfl⟩|⟨i,t,rfl,rfl⟩
  ·cases y with
   |k b =>
    rw[CZ];rcases aD (show dD b v=true from f)with⟨j,h,rfl,rfl⟩|⟨j,h,rfl,rfl⟩
    ·rw[xZ];exact SeqAt.RcAt.int_int i t j h
    ·rw[xY];exact SeqAt.RcAt.int_str i t j h
   |t m=>obtain⟨b,j,rfl,g,_⟩:=f;rw[zzr0 (by intro z;cases z)];exact SeqAt.RcAt.int_tuple i t g (by omega)
   |s m=>obtain⟨b,j,rfl,g,_⟩:=f;rw[zzr0 (by intro z;cases z)];exact SeqAt.RcAt.int_list i t g (by omega)
  ·cases y with
   |k b =>
    rw[CZ];rcases aD (show dD b v=true from f)with⟨j,h,rfl,rfl⟩|⟨j,h,rfl,rfl⟩
    ·rw[xX];exact SeqAt.RcAt.str_int i t j h
    ·rw[xW];have:=SeqAt.RcAt.str_str (A:=A) (s:=s) i t j h;rwa[show(i==j)=decide (i=j)from by by_cases e:i=j<;>simp[e]]at this
   |t m=>obtain⟨b,j,rfl,g,_⟩:=f;rw[zzr0 (by intro z;cases z)];exact SeqAt.RcAt.str_tuple i t g (by omega)
   |s m=>obtain⟨b,j,rfl,g,_⟩:=f;rw[zzr0 (by intro z;cases z)];exact SeqAt.RcAt.str_list i t g (by omega)
 |t l =>
  obtain⟨a,i,rfl,hi,hx⟩:=hx;cases y with
  |k b =>
   rw[zzr0 (by intro z;cases z)];rcases aD (show dD b v=true from f)with⟨j,h,rfl,rfl⟩|⟨j,h,rfl,rfl⟩
   ·exact SeqAt.RcAt.tuple_int j h hi (by omega)
   ·exact SeqAt.RcAt.tuple_str j h hi (by omega)
  |t m =>
   obtain⟨b,j,rfl,g,f⟩:=f;have n:DT.depths m<=13:=by have:DT.depths m+1<=14:=o;omega
   have r:=SeqAt.RcAt.tuples (A:=A) hi g (by omega) (oZ (by omega) n hx f);rw[Cb hx f]at r;rw[ID];exact r
  |s m=>obtain⟨b,j,rfl,g,_⟩:=f;rw[zzr0 (by intro z;cases z)];exact SeqAt.RcAt.tuple_list hi g (by omega)
 |s l =>
  obtain⟨a,i,rfl,hi,hx⟩:=hx;cases y with
  |k b =>
   rw[zzr0 (by intro z;cases z)];rcases aD (show dD b v=true from f)with⟨j,h,rfl,rfl⟩|⟨j,h,rfl,rfl⟩
   ·exact SeqAt.RcAt.list_int j h hi (by omega)
   ·exact SeqAt.RcAt.list_str j h hi (by omega)
  |t m=>obtain⟨b,j,rfl,g,_⟩:=f;rw[zzr0 (by intro z;cases z)];exact SeqAt.RcAt.list_tuple hi g (by omega)
  |s m =>
   obtain⟨b,j,rfl,g,f⟩:=f;have n:DT.depths m<=13:=by have:DT.depths m+1<=14:=o;omega
   have p:=hx.length;have q:=f.length;simp only[rg]at p q;rw[IE];by_cases e:l.length=m.length
   ·have r:=SeqAt.RcAt.lists (A:=A) hi g (by omega) (by omega) (oZ (by omega) n hx f);rw[<-p,gb e]at r;exact r
   ·rw[zzr0 fun z=>e (by rw[z])];exact SeqAt.RcAt.lists_lengths hi g (by simp;omega) (by omega)
theorem KH{x y:DT}{u v:Value}(o:y.depth<=14)(w:A.units+16<cLine)(hx:sN s.heap x u)(f:sN s.heap y v):SeqAt.RcNeAt A s u v (!decide (x=y)):=by
 cases x with
 |k a =>
  rcases aD (show dD a u=true from hx)with⟨i,t,rfl,rfl⟩|⟨i,t,rfl,rfl⟩
  ·cases y with
   |k b =>
    rw[CZ];rcases aD (show dD b v=true from f)with⟨j,h,rfl,rfl⟩|⟨j,h,rfl,rfl⟩
    ·rw[xZ];exact SeqAt.RcNeAt.int_int i t j h
    ·rw[xY];exact SeqAt.RcNeAt.int_str i t j h
   |t m=>obtain⟨b,j,rfl,g,_⟩:=f;rw[zzr0 (by intro z;cases z)];exact SeqAt.RcNeAt.int_tuple i t g (by omega)
   |s m=>obtain⟨b,j,rfl,g,_⟩:=f;rw[zzr0 (by intro z;cases z)];exact SeqAt.RcNeAt.int_list i t g (by omega)
  ·cases y with
   |k b =>
    rw[CZ];rcases aD (show dD b v=true from f)with⟨j,h,rfl,rfl⟩|⟨j,h,rfl,rfl⟩
    ·rw[xX];exact SeqAt.RcNeAt.str_int i t j h
    ·rw[xW];have:=SeqAt.RcNeAt.str_str (A:=A) (s:=s) i t j h;rwa[show(i==j)=decide (i=j)from by by_cases e:i=j<;>simp[e]]at this
   |t m=>obtain⟨b,j,rfl,g,_⟩:=f;rw[zzr0 (by intro z;cases z)];exact SeqAt.RcNeAt.str_tuple i t g (by omega)
   |s m=>obtain⟨b,j,rfl,g,_⟩:=f;rw[zzr0 (by intro z;cases z)];exact SeqAt.RcNeAt.str_list i t g (by omega)
 |t l =>
  obtain⟨a,i,rfl,hi,hx⟩:=hx;cases y with
  |k b =>
   rw[zzr0 (by intro z;cases z)];rcases aD (show dD b v=true from f)with⟨j,h,rfl,rfl⟩|⟨j,h,rfl,rfl⟩
   ·exact SeqAt.RcNeAt.tuple_int j h hi (by omega)
   ·exact SeqAt.RcNeAt.tuple_str j h hi (by omega)
  |t m =>
   obtain⟨b,j,rfl,g,f⟩:=f;have n:DT.depths m<=13:=by have:DT.depths m+1<=14:=o;omega
   have r:=SeqAt.RcNeAt.tuples (A:=A) hi g (by omega) (oZ (by omega) n hx f);rw[Cb hx f]at r;rw[ID];exact r
  |s m=>obtain⟨b,j,rfl,g,_⟩:=f;rw[zzr0 (by intro z;cases z)];exact SeqAt.RcNeAt.tuple_list hi g (by omega)
 |s l =>
  obtain⟨a,i,rfl,hi,hx⟩:=hx;cases y with
  |k b =>
   rw[zzr0 (by intro z;cases z)];rcases aD (show dD b v=true from f)with⟨j,h,rfl,rfl⟩|⟨j,h,rfl,rfl⟩
   ·exact SeqAt.RcNeAt.list_int j h hi (by omega)
   ·exact SeqAt.RcNeAt.list_str j h hi (by omega)
  |t m=>obtain⟨b,j,rfl,g,_⟩:=f;rw[zzr0 (by intro z;cases z)];exact SeqAt.RcNeAt.list_tuple hi g (by omega)
  |s m =>
   obtain⟨b,j,rfl,g,f⟩:=f;have n:DT.depths m<=13:=by have:DT.depths m+1<=14:=o;omega
   have p:=hx.length;have q:=f.length;simp only[rg]at p q;rw[IE];by_cases e:l.length=m.length
   ·have r:=SeqAt.RcNeAt.lists (A:=A) hi g (by omega) (by omega) (oZ (by omega) n hx f);rw[<-p,gb e]at r;exact r
   ·rw[zzr0 fun z=>e (by rw[z])];exact SeqAt.RcNeAt.lists_lengths hi g (by simp;omega) (by omega)
end
mutual
def kF(K:Za)(H:Hp):DT->V->Prop
 |.k a,v=>v=kV a
 |.t l,v=>∃b xs,v=.ref b/\cq K H b xs/\DIns K H l xs
 |.s l,v=>∃b xs,v=.ref b/\aA K H b xs/\DIns K H l xs
def DIns(K:Za)(H:Hp):List DT->List V->Prop
 |[],vs=>vs=[]
 |k::r,vs=>∃v us,vs=v::us/\kF K H k v/\DIns K H r us
end
section
variable{X:Cx}{J6:Zd}{σ:St}{H:Hp}{s:Shared}
theorem nB(I:Inv X J6 σ H s):∀(d:Nat) {k:DT}{v:V}{u:Value},k.depth<=d->kF X.K H k v->RelV v u->sN s.heap k u:=by
 have h:∀(d:Nat) (i:∀{k:DT}{v:V}{u:Value},k.depth<=d->kF X.K H k v->RelV v u->sN s.heap k u) (f:List DT) (j:List V) (o:Zf),DT.depths f<=d->DIns X.K H f j->bg j o->DAts s.heap f o:=by
  intro d i f
  induction f with
  |nil =>
   intro j o _ hx r;have e:j=[]:=hx;subst e;cases r
   rfl
  |cons k f p =>
   intro j o g hx r;obtain⟨v,q,rfl,m,B⟩:=hx;cases r with
   |@cons _ u _ n C D =>
    have E:max k.depth (DT.depths f)<=d:=g;exact⟨u,n,rfl,i (by omega) m C,p q n (by omega) B D⟩
 intro d
 induction d with
 |zero =>
  intro k v u g hx r;cases k with
  |t l=>exact absurd g (by show ¬(DT.depths l+1<=0);omega)
  |s l=>exact absurd g (by show ¬(DT.depths l+1<=0);omega)
  |k b =>
   have e:v=kV b:=hx;subst e;exact rE (P:=X.prog) (w:=X.w) r
 |succ d i =>
  intro k v u g hx r;cases k with
  |k b =>
   have e:v=kV b:=hx;subst e;exact rE (P:=X.prog) (w:=X.w) r
  |t l =>
   obtain⟨b,xs,rfl,x,hi⟩:=hx;cases(show u=Value.ref b from r);obtain⟨a,y,z,_⟩:=I.tuple x;exact⟨b,a.toArray,rfl,z,by simpa using h d (fun m=>i m) l xs a (by have:DT.depths l+1<=d+1:=g;omega) hi y⟩
  |s l =>
   obtain⟨b,xs,rfl,x,hi⟩:=hx;cases(show u=Value.ref b from r);obtain⟨a,y,z,_⟩:=I.list x;exact⟨b,a.toArray,rfl,z.isList,by simpa using h d (fun m=>i m) l xs a (by have:DT.depths l+1<=d+1:=g;omega) hi y⟩
theorem o5(I:Inv X J6 σ H s):∀{a:List DT}{f:List V}{g:Zf},DT.depths a<=8->DIns X.K H a f->bg f g->DAts s.heap a g
 |[],f,g,_,hx,r=>by
  have e:f=[]:=hx;subst e;cases r
  rfl
 |k::a,f,g,i,hx,r=>by
  obtain⟨v,j,rfl,l,m⟩:=hx;cases r with
  |@cons _ u _ h n o =>
   have p:max k.depth (DT.depths a)<=8:=i;exact⟨u,h,rfl,nB I 8 (by omega) l n,o5 I (by omega) m o⟩
end
def se(K:Za):R2:=fun x y H Q=>∃d e:DT,kF K H d x/\kF K H e y/\d.depth<=8/\e.depth<=8/\Q (.bl (decide (d=e))) H
def Hc(K:Za):R2:=fun x y H Q=>∃d e:DT,kF K H d x/\kF K H e y/\d.depth<=8/\e.depth<=8/\Q (.bl (!decide (d=e))) H
section
variable{X:Cx}
theorem kq(f:X.A.units+16<cLine):mK X (eG .Eq) (se X.K):=by
 intro l s σ H x y v u Q I g i h;obtain⟨d,e,hx,j,k,a,q⟩:=h;exact KG (aP a (by decide)) f (nB I 8 k hx g) (nB I 8 a j i) X.prog X.w X.xe _ ⟨.bl _,H,I,rfl,q⟩
theorem FJ(f:X.A.units+16<cLine):mK X (eG .NotEq) (Hc X.K):=by
 intro l s σ H x y v u Q I g i h;obtain⟨d,e,hx,j,k,a,q⟩:=h;exact KH (aP a (by decide)) f (nB I 8 k hx g) (nB I 8 a j i) X.prog X.w X.xe _ ⟨.bl _,H,I,rfl,q⟩
def oO(K:Za)(neg:Bool):R2:=fun x y H Q=>∃(d:DT) (ds:List DT) (p:Addr) (xs:List V),kF K H d x/\y=.ref p/\(aA K H p xs∨cq K H p xs)/\DIns K H ds xs/\d.depth<=8/\DT.depths ds<=8/\Q (.bl (if neg then !decide (d∈ds)else decide (d∈ds))) H
open Classical in
theorem o_{h:Heap}{d:DT}(g:d.depth<=8):∀{a:List DT}{f:Zf},DAts h a f->DT.depths a<=8->f.any (fun u=>@decide (sN h d u) (propDecidable _))=decide (d∈a)
 |[],f,e,_=>by
  have j:f=[]:=e;subst j
  rfl
 |x::a,f,e,k=>by
  obtain⟨u,l,rfl,i,m⟩:=e;have o:max x.depth (DT.depths a)<=8:=k;rw[wS,o_ g m (by omega)];by_cases q:d=x
  ·subst q;simp[i]
  ·have n:¬sN h d u:=fun z=>q (sN.inj 8 g z i);simp[n,q]
open Classical in
theorem uq{A:Around}{s:Shared}{d:DT}{v:Value}(g:d.depth<=8)(i:A.units+8<cLine)(j:sN s.heap d v):∀{f:List DT}{a:Zf},DAts s.heap f a->DT.depths f<=8->∀u∈a,bp A s u v (@decide (sN s.heap d u) (propDecidable _))
 |[],a,e,_,u,hm=>by
  have k:a=[]:=e;subst k;cases hm
 |x::f,a,e,l,u,hm=>by
  obtain⟨r,m,rfl,h,o⟩:=e;have p:max x.depth (DT.depths f)<=8:=l;rcases bw.mp hm with rfl|hm
  ·have q:=IA 8 (A:=A) g i h j;by_cases z:x=d
   ·subst z;rw[zzr1 h];rwa[zzr1 rfl]at q
   ·have n:¬sN s.heap d u:=fun w=>z (sN.inj 8 g w h).symm;rw[zzr0 n];rwa[zzr0 z]at q
  ·exact uq g i j o (by omega) u hm
theorem nk(o:X.A.units+16<cLine):mK X (eG .In) (oO X.K false):=by
 intro t s σ H x y v u Q I l m h;obtain⟨d,z,p,xs,hx,rfl,hq,e,f,a,q⟩:=h;cases m;have k:=nB I 8 f hx l;have g:X.A.in1.units+8<cLine:=by show X.A.units+1+8<cLine;omega
 rcases hq with hq|hq
 ·obtain⟨i,r,pl,n⟩:=I.list hq;have hi:=o5 I a e r;refine SeqAt.in_listAt _ pl.isList (fun w j=>uq f g k hi a w (by simpa using j)) ⟨.bl _,H,I,rfl,?_⟩;rw[wG,o_ f hi a];exact q
 ·obtain⟨i,r,pl,n⟩:=I.tuple hq;have hi:=o5 I a e r;refine SeqAt.in_tupleAt _ pl (fun w j=>uq f g k hi a w (by simpa using j)) ⟨.bl _,H,I,rfl,?_⟩;rw[wG,o_ f hi a];exact q
theorem jM(o:X.A.units+16<cLine):mK X (eG .NotIn) (oO X.K true):=by
 intro t s σ H x y v u Q I l m h;obtain⟨d,z,p,xs,hx,rfl,hq,e,f,a,q⟩:=h;cases m;have k:=nB I 8 f hx l;have g:X.A.in1.units+8<cLine:=by show X.A.units+1+8<cLine;omega
 rcases hq with hq|hq
 ·obtain⟨i,r,pl,n⟩:=I.list hq;have hi:=o5 I a e r;refine SeqAt.notIn_listAt _ pl.isList (fun w j=>uq f g k hi a w (by simpa using j)) ⟨.bl _,H,I,rfl,?_⟩;rw[wG,o_ f hi a];exact q
 ·obtain⟨i,r,pl,n⟩:=I.tuple hq;have hi:=o5 I a e r;refine SeqAt.notIn_tupleAt _ pl (fun w j=>uq f g k hi a w (by simpa using j)) ⟨.bl _,H,I,rfl,?_⟩;rw[wG,o_ f hi a];exact q
end
def qE(z:Str)(lo hi:Option Int):Str:=⟨((z.cps.toList.drop (HT.sIx z.length 0 lo)).take (HT.sIx z.length z.length hi-HT.sIx z.length 0 lo)).toArray⟩
theorem sliceRange_one(a b:Nat):sliceRange (a:Int) (b:Int) 1=(nV (b-a)).map (fun k=>a+k):=by
 unfold sliceRange;simp only[show(1:Int) > 0 from by decide,if_true];by_cases h:(a:Int)<(b:Int)
 ·have e:(if(a:Int)<(b:Int)then((b:Int)-a+1-1) / 1 else 0).toNat=b-a:=by rw[if_pos h];omega
  rw[e];exact List.map_congr_left fun k _=>by omega
 ·have e:(if(a:Int)<(b:Int)then((b:Int)-a+1-1) / 1 else 0).toNat=b-a:=by rw[if_neg h];omega
  rw[e];exact List.map_congr_left fun k _=>by omega
theorem Ab(v:Option Int)(n d:Nat):(match v with|none=>(d:Int)|some i=>max 0 (min (if i<0 then i+(n:Int)else i) (n:Int)))=((HT.sIx n d v:Nat):Int):=by
 cases v with
 |none=>rfl
 |some i =>
  rw[<-HT.clip_eq i n d];dsimp only;by_cases h:i<0
  ·rw[if_pos h,if_pos h];omega
  ·rw[if_neg h,if_neg h];omega
theorem oF(lo hi:Option Int)(n:Nat):sX lo hi 1 n=(nV (HT.sIx n n hi-HT.sIx n 0 lo)).map (fun k=>HT.sIx n 0 lo+k):=by
 have a:=Ab lo n 0;have e:=Ab hi n n;rw[<-sliceRange_one,<-a,<-e];unfold sX;simp only[show(1:Int) > 0 from by decide,if_true];cases lo<;>cases hi<;>rfl
theorem Dx(z:Str)(lo hi:Option Int):Txt.slice z lo hi=qE z lo hi:=by
 have k:HT.sIx z.length 0 lo<=z.length:=HT.sIx_le _ _ (cf _) _;have l:HT.sIx z.length z.length hi<=z.length:=HT.sIx_le _ _ (aG _) _;have f:z.cps.toList.length=z.length:=by simp[Str.length]
 have e:(sX lo hi 1 z.length).filterMap (z.cps[·]?)=(z.cps.toList.drop (HT.sIx z.length 0 lo)).take (HT.sIx z.length z.length hi-HT.sIx z.length 0 lo):=by
  rw[oF];generalize HT.sIx z.length 0 lo=a at *;generalize HT.sIx z.length z.length hi=b at *;have h:=StrLaws.picks z.cps.toList (b-a) a (by omega);simpa using h
 unfold Txt.slice;by_cases h:((1:Int)==1 && (sX lo hi 1 z.length).length==z.length)=true
 ·rw[if_pos h];have g:(sX lo hi 1 z.length).length=z.length:=by simpa using h
  rw[oF,aq,List.length_range]at g;unfold qE;have i:HT.sIx z.length 0 lo=0:=by omega
  have j:HT.sIx z.length z.length hi-HT.sIx z.length 0 lo=z.cps.toList.length:=by omega
  rw[j,i,kT,cO]
 ·rw[if_neg h];unfold qE;rw[e]
section
variable{X:Cx}
def xK:V->Option Int->Option Int->Hp->VK->Prop:=fun x lo hi H Q=>∃z,x=.str z/\z.length<=ao/\Q (.str (qE z lo hi)) H
theorem qa:SlR X xK:=by
 intro g s σ H x v m n lo hi p Q I r y pl f h;obtain⟨z,rfl,B,q⟩:=h;obtain⟨t,rfl⟩:=r;rw[<-Dx]at q;refine⟨"str",_,F.slot_str_getitem.lookup,wU _ _ _,?_⟩;obtain⟨o,C,D,E⟩:=y;have a:∀(l u:Option (Int×Tok)),m=partValue l->n=partValue u->lo=l.map (·.1)->hi=u.map (·.1)->wpAny (model X.prog X.w) X.A (mS (.str z t) (.ref p)) (EP X g σ Q) X.xe s:=by
  rintro l u rfl rfl rfl rfl;refine wpAny_getItem_str_slice (l:=l) (u:=u) (st:=none) ⟨o,C,D,E⟩ rfl (post_val_or_str ⟨aP (Txt.slice_le z _ _) B,fun e k=>⟨.str _,H,I.tok _,⟨_,rfl⟩,q⟩⟩)
 cases pl with
 |none =>
  cases f with
  |none=>exact a none none rfl rfl rfl rfl
  |int j u=>exact a none (some (j,u)) rfl rfl rfl rfl
 |int i e =>
  cases f with
  |none=>exact a (some (i,e)) none rfl rfl rfl rfl
  |int j u=>exact a (some (i,e)) (some (j,u)) rfl rfl rfl rfl
def vT(K:Za):V->List V->Hp->VK->Prop:=fun x vs H Q=>∃z p ys,x=.str z/\vs=[.ref p]/\aA K H p (ys.map V.str)/\(ys.map (·.length)).sum+ys.length * z.length<=16777216/\Q (.str (eg z ys)) H
theorem G3{a:Zb}:∀{us:Zf},bg (a.map V.str) us->StrsAre us a:=by
 induction a with
 |nil=>intro us r;cases r;exact .nil
 |cons y a e =>
  intro us r;cases r with
  |cons f g =>
   obtain⟨t,rfl⟩:=f;exact .cons _ _ (e g)
theorem sG:JW X "str.join" (vT X.K):=by
 intro l s σ H x m v n Q I a e h;obtain⟨z,p,o,rfl,rfl,f,g,q⟩:=h;obtain⟨t,rfl⟩:=a;obtain⟨u,rfl,i⟩:=e.one;cases i;obtain⟨j,r,pl,_⟩:=I.list f;exact join_list pl.isList (by simpa using G3 r) g fun w k=>⟨.str _,H,I.tok _,⟨_,rfl⟩,q⟩
end
section
variable{X:Cx}
def TyX(K:Za)(H:Hp)(x:V)(t:Value):Prop:=nD K H x t∨(∃a xs,x=.ref a/\t=.type "tuple"/\cq K H a xs)∨(∃a xs,x=.ref a/\t=.type "list"/\aA K H a xs)
theorem Bp{k:Zd}{σ:St}{H:Hp}{s:Shared}{A:Around}{E:Zc}{Q:Zc}{c:Value}{b:Bool}{x:V}{u t:Value}(I:Inv X k σ H s)(f:RelV x u)(ty:TyX X.K H x t)(e:yW X.K t c=some b)(h:∀tk,Q (.bool b) { s with toks:=tk }):
  wpAny (model X.prog X.w) A (call (.builtin "isinstance") [u,c]) Q E s:=by
 rcases ty with ty|⟨a,xs,rfl,rfl,q⟩|⟨a,xs,rfl,rfl,q⟩
 ·exact DQ I f ty e h
 ·cases(show u=Value.ref a from f);obtain⟨g,l,p,m⟩:=I.tuple q;obtain⟨o,i,j,_⟩:=p;exact jF PySem.W.kitx_tuple I.kIn ⟨o,i,j⟩ e (fun z=>nomatch z) h
 ·cases(show u=Value.ref a from f);obtain⟨g,l,p,m⟩:=I.list q;obtain⟨o,n,i,j,_⟩:=p;exact jF PySem.W.kitx_list I.kIn ⟨o,i,j⟩ e (fun z=>nomatch z) h
theorem eQ:g7 X (.builtin "isinstance") (fun xs H Q=>∃x c t b,xs=[x,.ty c]/\TyX X.K H x t/\yW X.K t (.type c)=some b/\Q (.bl b) H):=by
 intro g s σ H xs i Q I r h;obtain⟨x,c,t,b,rfl,ty,a,q⟩:=h;obtain⟨u,v,rfl,e,f⟩:=vals2 r;cases(show v=Value.type c from f);exact Bp I e ty a fun tk=>⟨.bl b,H,I.tok _,rfl,q⟩
theorem JM{bs:List Bool}{a:Zf}(r:bg (bs.map V.bl) a){i:Nat}{v:Value}(h:a[i]?=some v):v=.bool ((bs[i]?).getD false)/\i<bs.length:=by
 have hi:i<a.length:=(dg.mp h).1;have g:=r.length;rw[aq]at g;have e:i<bs.length:=by omega
 obtain⟨u,f,j⟩:=r.get (i:=i) (x:=V.bl bs[i]) (by simp[e]);rw[h]at f;cases f;refine⟨?_,e⟩;rw[ef e];exact j
theorem yG(bs:List Bool):((nV bs.length).all fun i=>(bs[i]?).getD false)=bs.all id:=by
 induction bs with
 |nil=>rfl
 |cons b bs a =>
  rw[bP,List.range_succ_eq_map,sW,mP,sW,<-a]
  rfl
theorem jo(k:X.calm=true):g7 X (.builtin "all") (fun xs H Q=>∃(p:Addr) (bs:List Bool),xs=[.ref p]/\aA X.K H p (bs.map V.bl)/\Q (.bl (bs.all id)) H):=by
 intro l s σ H xs D Q I r h;obtain⟨p,bs,rfl,m,q⟩:=h;obtain⟨u,rfl,t⟩:=vals1 r;cases t;obtain⟨a,g,pl,E⟩:=I.list m;obtain⟨o,n,x,_⟩:=id pl;have j:=g.length;rw[aq]at j;refine call_all_walk (B0 pl.isList ?_);refine⟨s.heap.objs.size,_,_,_,_,_,fun i=>(bs[i]?).getD false,rfl,Walks.list (prog:=X.prog) (w:=X.w) (A:=X.A.in1) (I.ok.hd k) s.heap.objs.size p (cw (aQ x)) a.toArray,⟨⟨_,dJ _ rfl,rfl,rfl⟩,pl.isList.push _⟩,?_,?_⟩
 ·intro i v G J L y f;obtain⟨e,_⟩:=JM g (i:=i) (v:=v) (by simpa using y);rw[e];exact nW f
 ·intro z tk B;have C:Inv X l σ H { s with heap:=z,toks:=tk }:=I.kept fun b o e=>B b o (by simp;exact cw (aQ e)) (bh _ e);rw[b_,<-j,yG];exact⟨.bl _,H,C,rfl,q⟩
theorem ud:mK X (eG .In) (fun x y H Q=>∃c j,x=.str ⟨#[c]⟩/\y=.str j/\Q (.bl (decide (c∈j.cps.toList))) H):=by
 intro a s σ H x y v u Q I e f h;obtain⟨c,j,rfl,rfl,q⟩:=h;rw[<-StrLaws.found_one]at q;exact DG a s σ H _ _ v u Q I e f ⟨_,_,rfl,rfl,q⟩
theorem uK(T:X.calm=true):g7 X (.type "list") (fun xs H Q=>∃(d:Addr) (f:List (eE×V)),xs=[.ref d]/\Rd H d (.dK f)/\∀l,H l=none->Q (.ref l) (upd H l (.lst (f.map fun g=>kV g.1)))):=by
 intro J6 s σ H xs us Q I r h;obtain⟨d,f,rfl,U,q⟩:=h;obtain⟨u,rfl,Y⟩:=vals1 r;cases Y;obtain⟨z,n,N,y,dd⟩:=rK I.hok U;obtain⟨ep,G⟩:=dd.dictAt;have hl:=y.length;refine PySem.W.kdl_call (PySem.W.kdl_dict (knd:=cF X.prog X.w) (kvs:=N) (ep:=ep) n) (I.ok.hd T) G (by rw[<-hl];exact z) fun h' tk m c J hD B=>?_;have C:bg (f.map fun g=>kV g.1) m.toList:=by
  obtain⟨hn,hP⟩:=B;have L:∀(a:Zf) (M:List (eE×V)) (D:List (eE×Value)),KV M D->a.length=D.length->(∀(j:Nat) (v:Value),a[j]?=some v->∃k x,D[j]?=some (k,x)/\(cF X.prog X.w).is k v=true)->bg (M.map fun g=>kV g.1) a:=by
   intro a M D rl
   induction rl generalizing a with
   |nil=>intro E _;cases a with
    |nil=>exact .nil
    |cons _ _=>cases E
   |@cons p w' ps ab hp _ ih =>
    intro E O;cases a with
    |nil=>cases E
    |cons v a =>
     obtain⟨k,x,e,J⟩:=O 0 v rfl;have e':w'=(k,x):=by simpa using e
     refine .cons ?_ (ih a (by simpa using E) fun j v C=>by simpa using O (j+1) v (by simpa using C));have ek:p.1=k:=by rw[hp.1,e']
     show RelV (kV p.1) v;rw[ek];rcases aD (show dD k v=true from J)with⟨i,t,rfl,rfl⟩|⟨i,t,rfl,rfl⟩
     ·exact⟨t,rfl⟩
     ·exact⟨t,rfl⟩
  exact L m.toList f N y (by rw[rg];exact hn) fun j v C=>hP j v (by rw[<-Array.getElem?_toList];exact C)
 refine⟨.ref s.heap.objs.size,_,I.laid (o:=.lst (f.map fun g=>kV g.1)) J (aG _) ⟨by rw[aq];exact z,m.toList,c,C,by rw[Array.toArray_toList];exact hD⟩,rfl,q _ I.fresh⟩
end
section
variable{prog:bF}{w:World}{K:Type}[DecidableEq K]{knd:HeapKind prog w K}{A:Around}{E:Zc}{s:Shared}
theorem tD{d a:Addr}{xs:List (K×Addr×Value)}{k:K}{v:Value}{Q:Zc}(t:knd.room A)(f:knd.is s.heap k a)(B:s.heap.DictOfH knd d xs)
  (there:∀p,atKey xs k=some p->Q p.2 { s with toks:=s.toks+knd.draws k })
  (new:atKey xs k=none->∀q,q.DictOfH knd d (xs++[(k,a,v)])->jH d s.heap q->Q v { s with heap:=q,toks:=s.toks+knd.draws k })
  (C:xs.length<=ao):wpAny (model prog w) A (dictSetDefault d (.ref a) v) Q E s:=by
 obtain⟨o,H,D,h,G,g,n,i,r⟩:=B;unfold dictSetDefault
 try with_reducible refine kW ?_
 refine ar (knd.pyHash t f ?_);refine ar (wpAny_dictFind_heap (s:={ s with toks:=s.toks+knd.draws k }) t f h g n i r ?_ ?_)
 ·intro l;have m:k∉xs.map (·.1):=not_mem_keys_of_get l;refine ar (rk (ar (wpAny_updateDictKeys (hz:=by have e:=size_of_entries n;omega) (s:={ s with toks:=s.toks+knd.draws k }) h g (be (new (atKey_none_of_get l) _ ⟨_,_,D+1,hW _ h (Obj.isFreed_of_dict (Obj.data_mapDictKeys g _)),
   G.mapDictKeys _,Obj.data_mapDictKeys g _,?_,?_,?_⟩ (sZ ..))))))
  ·simp[n,entryOfKey]
  ·intro x hx;rcases bu.mp hx with hx|hx
   ·exact knd.keeps (i x hx) h g (sZ ..)
   ·simp only[pD]at hx;subst hx;exact knd.keeps f h g (sZ ..)
  ·rw[aK,fQ];refine⟨r,by simp,?_⟩;intro x hx y u;simp only[aS,List.map_nil,pD]at u;subst u;exact fun e=>m (e▸hx)
 ·intro j p z;refine ar (wpAny_dictEntries (s:={ s with toks:=s.toks+knd.draws k }) h g ?_);rw[entry_at n j,z];exact ar (rk (be (there p (atKey_of_get r z))))
theorem oU(knd:HeapKind prog w K)(d a:Addr)(j:(d==jI)=false)(dflt:Value):
  MeetsIn prog w (cT.«dict.setdefault» ⟨[.ref d,.ref a,dflt],[]⟩) (fun A R s=>knd.room A.in1/\∃k xs,knd.is s.heap k a/\s.heap.DictOfH knd d xs/\xs.length<=ao /\
   (∀p,atKey xs k=some p->R (.ok (.ret p.2)) { s with toks:=s.toks+knd.draws k }) /\
   (atKey xs k=none->∀e,e.DictOfH knd d (xs++[(k,a,dflt)])->jH d s.heap e->R (.ok (.ret dflt)) { s with heap:=e,toks:=s.toks+knd.draws k })) :=
 .of_wp fun A R s ⟨l,k,xs,f,i,m,n,o⟩=>by
  unfold cT.«dict.setdefault»;refine ar ?_;unfold cT.Dict.keyAndDefault;refine ar (wpAny_notOrdered_dict i.typeIs ?_);show wpAny _ _ (pure (d,Value.ref a,some dflt)) _ _ s;refine be ?_;show wpAny _ _ (if(d==jI)=true then _ else(dictSetDefault d (.ref a) dflt >>= _)) _ _ s
  rw[if_neg (by rw[j];exact jG)];exact ar (tD l f i (fun p q=>be ⟨p.2,rfl,n p q⟩) (fun r e g h=>be ⟨dflt,rfl,o r e g h⟩) m)
end
section
variable{X:Cx}
def Cw:V->List V->Hp->VK->Prop:=fun x vs H Q=>∃(d b:Addr) (kvs:List (TK×V)) (k:TK) (z:V),x=.ref d/\vs=[.ref b,z]/\H d=some (.dT kvs)/\ir H k (.ref b)/\k.depth<=8/\kvs.length<ao /\
 (∀v,eh kvs k=some v->Q v H)/\(eh kvs k=none->Q z (upd H d (.dT (kvs++[(k,z)]))))
theorem DK(C:X.A.units+16<cLine):JW X "dict.setdefault" Cw:=by
 intro J6 s σ H x vs v us Q I D E h;obtain⟨d,b,a,k,z,rfl,rfl,l,n,j,hz,G,J⟩:=h;cases D;obtain⟨u,v,rfl,L,q⟩:=E.two;cases L;obtain⟨_,g,xs,f,r⟩:=Iz I.hok I.kIn l;have hl:a.length=xs.length:=Paired.length f;refine call_meetsIn PySem.F.slot_dict_setdefault r.typeIs PySem.F.entry_dict_setdefault (PySem.F.args_dict_setdefault_3 _ _ _) (oU (fR X.prog X.w) d b g v)
  ⟨ix C,k,xs,Bn I.hok I.kIn (ir.c 8 j n) j,r,by omega,fun p M=>?_,fun N h' m O=>?_⟩
 ·have e:=f.val k;rw[M]at e;cases i:eh a k with
  |none=>rw[i]at e;exact e.elim
  |some y =>
   rw[i]at e;exact⟨y,H,I.tok _,e,G y i⟩
 ·have e:=f.val k;rw[N]at e;have i:eh a k=none:=by
   cases i:eh a k with
   |none=>rfl
   |some y=>rw[i]at e;exact e.elim
  obtain⟨o,T,U,t,Y,h3,h4,_,h5⟩:=m;refine⟨z,_,yt (ob:=.dT (a++[(k,z)])) I (by rw[l];exact eU) O ⟨o,t⟩ ⟨by rw[aV,List.length_singleton];omega,g,_,KT.keeps (kvs:=a++[(k,z)]) (xs:=xs++[(k,b,v)]) (wR f ⟨rfl,ir.c 8 j n,j,q⟩) fun c ys B=>?_,o,T,U,t,Y,h3,h4,h5⟩,q,J i⟩;rw[am (Iq B l (fun z=>nomatch z))];exact B
end
theorem lJ:entryFor table "dict.update.loop"=some cT.«dict.update.loop»:=entryFor_of_fast (by kernel_rfl)
theorem fW:plainId "dict.update.loop"=true:=by decide +kernel
theorem xT:pK (.type "list") "keys"=pure none:=am_miss_of_fast (by decide +kernel)
section
variable{prog:bF}{w:World}{A:Around}{E:Zc}{s:Shared}
theorem DM{a:Addr}{o:Obj}{xs:Array Value}{k:Nat}{Q:Option Value->Shared->Prop}(hx:s.heap.get? a=some o)(m:o.cls=.type "list")(f:o.data=.seq xs k)(n:o.dict=none)(r:A.handled=none)
  (h:∀l tk,(∀b p,s.heap.get? b=some p->l.get? b=some p)->Q none { s with heap:=l,toks:=tk }):wpAny (model prog w) A (getAttr? (.ref a) "keys") Q E s:=by
 obtain⟨c,t,u,v⟩:=o;simp only at m f n;subst m f n;obtain⟨x,g,d,tk,os⟩:=s;have q:∀i,(⟨x,g,d,i,os⟩:Shared).TypeIs (.ref a) "list":=fun _=>⟨_,hx,rfl⟩;have y:=sub_AttributeError;have z:=F.slot_list_getattribute.lookup;have B:=F.slot_list_getattribute.bind (.ref a);have C:=am_list_getattr_none;unfold getAttr? getAttrBy? getAttrBy
 repeat (any_goals (first|assumption|exact q _|((with_reducible show wpAny _ _ (call (Ap "list.__getattribute__") _ _) _ _ _);refine k7 F.slot_list_getattribute (q _) am_entry_list_getattribute (F.args_list_getattribute_2 _ _) (meets_getattribute_miss_list a xs k v "keys" _ xT (by decide +kernel) (by decide +kernel)) ⟨hx,r,fun l i e j=>?_⟩)|wp_step))
 obtain⟨D,G,H⟩:=j.there;show wpAny _ _ (getattributeRaised _ _ _ _ _ _ _) _ _ _;unfold getattributeRaised hookOrError attributeErrorLeaves
 repeat (any_goals (first|assumption|wp_step))
 all_goals first|exact h _ _ j.keeps|trace_state
def BI(h:Heap)(u:Value)(kv:eE×Value):Prop:=∃t ku,u=.ref t/\h.IsTuple t #[ku,kv.2]/\dD kv.1 ku=true
theorem AU{κ:Type}[DecidableEq κ](a:List (κ×Value))(k:κ)(v:Value):(stored a k v).length<=a.length+1:=by
 unfold stored;split
 ·rw[aq];omega
 ·rw[aV,List.length_singleton];exact aG _
theorem EC{R:Result->Shared->Prop}(hh:A.handled=none){D it l:Addr}{items:Array Value}{ps:List (eE×Value)}(B:D≠it)(T:l≠it)(U:l≠D)(a0:ps.length=items.size):
  ∀(n i:Nat) (s:Shared) (a:List (eE×Value)),items.size-i=n->i<=items.size->a.length+(items.size-i)<=ao->s.heap.IsListIter it l i->s.heap.IsList l items->s.heap.DictOf (cF prog w) D a ->
   (∀(j:Nat) (u:Value) (N:eE×Value),items[j]?=some u->ps[j]?=some N->BI s.heap u N) ->
   (∀z tk,z.DictOf (cF prog w) D (merged a (ps.drop i))->(∀b o,b≠D->b≠it->s.heap.get? b=some o->z.get? b=some o)->R (.ok (.ret .none)) { s with heap:=z,toks:=tk }) ->
   zzl88 (model prog w) A (.builtin "dict.update.loop" ⟨[.ref D,.ref it,rawInt i,.none],[]⟩) R s:=by
 intro n
 induction n with
 |zero =>
  intro i s a hn hi hz p O Q Y hR;have e:i=items.size:=by omega
  subst e;refine codeAny_builtin lJ ?_;rw[Around.under_plainId fW _];show wpAny _ A.in1 (pyNext (.ref it) >>= _) _ _ s;refine ar (wpAny_pyNext_list_end hh p O (by simp) fun z eb=>?_);show wpAny _ _ (cT.Dict.addKeywords D [] >>= _) _ _ _;refine ar (be (be ?_));have C:z.DictOf (cF prog w) D a:=Q.extBut eb B;have q:=hR z s.toks (by rw[pC (by omega)];exact C) fun b o _ hb e=>eb b o hb e;exact q
 |succ n ih =>
  intro i s a hn hi hz p O Q Y hR;have I:i<items.size:=by omega
  refine codeAny_builtin lJ ?_;rw[Around.under_plainId fW _];show wpAny _ A.in1 (pyNext (.ref it) >>= _) _ _ s;have hu:items[i]?=some items[i]:=by simp[I]
  have hk:ps[i]?=some ps[i]:=ef (by omega);obtain⟨t,ku,eu,ht,ab⟩:=Y i _ _ hu hk;refine ar (wpAny_pyNext_list_item p O (x:=items[i]) hu fun h J ai=>?_);rw[eu];have m:jH it s.heap h:=ai;have nt:t≠it:=by
   rintro rfl;obtain⟨o,G,L,_⟩:=ht;obtain⟨o',f,g,_⟩:=p;rw[G]at f;cases f;rw[L]at g;simp at g
  have M:h.IsTuple t #[ku,ps[i].2]:=ht.extBut m.extBut nt;have aj:Shared.TypeIs { s with heap:=h } (.ref t) "tuple":=M.typeIs (s:={ s with heap:=h });obtain⟨ot,ak,a4,a5,al⟩:=id M;refine ar (kW ?_);refine ar (wpAny_tryCatch ?_);unfold cT.Dict.pairItems;refine ar (wpAny_typeOf aj ?_);rw[if_pos (by decide)];refine ar (mD ak al (be ?_));show wpAny _ _ (nS [ku,ps[i].2] (dictSet D ku ps[i].2)) _ _ _;have an:h.DictOf (cF prog w) D a:=Q.extBut m.extBut B;refine kW (wpAny_dictSet_pairs (knd:=cF prog w) (k:=ps[i].1) ab an (fun y ap as=>?_) (by omega));have v:jH D h y:=as;show wpAny _ _ (again _) _ _ _;refine be ⟨plainId_quiet fW _,?_⟩;have aC:h.IsList l items:=O.extBut m.extBut T;have kp:∀b o,b≠D->b≠it->s.heap.get? b=some o->y.get? b=some o:=fun b o h y e=>v.extBut b o h (m.extBut b o y e);refine ih (i+1) _ (stored a ps[i].1 ps[i].2) (by omega) I (by have:=AU a ps[i].1 ps[i].2;omega) (J.extBut v.extBut (cZ B)) (aC.extBut v.extBut U) ap (fun j u N h y=>?_) fun z tk C aH=>?_
  ·obtain⟨t2,aT,e2,H,aX⟩:=Y j u N h y;have n1:t2≠it:=by
    rintro rfl;obtain⟨o,G,L,_⟩:=H;obtain⟨o',f,g,_⟩:=p;rw[G]at f;cases f;rw[L]at g;simp at g
   have n2:t2≠D:=by
    rintro rfl;obtain⟨o,G,L,_⟩:=H;obtain⟨o',_,_,f,g,_⟩:=Q;rw[G]at f;cases f;have:=g.1;rw[L]at this;simp at this
   obtain⟨o,G,r⟩:=H;exact⟨t2,aT,e2,⟨o,kp _ o n2 n1 G,r⟩,aX⟩
  ·refine hR z tk ?_ fun b o h y e=>aH b o h y (kp b o h y e);have ed:ps.drop i=ps[i]::ps.drop (i+1):=j4 (by omega);rw[ed];exact C
theorem sh{l:Addr}{o:Obj}{items:Array Value}{n:Nat}{ps:List (eE×Value)}{Q:Zc}(T:A.handled=none)(U:s.heap.get? l=some o)(J:o.cls=.type "list")(v:o.data=.seq items n)(L:o.dict=none)
  (M:ps.length=items.size) (hp:∀(j:Nat) (u:Value) (H:eE×Value),items[j]?=some u->ps[j]?=some H->BI s.heap u H) (hz:items.size<=ao)
  (h:∀x tk,x.DictOf (cF prog w) s.heap.objs.size (merged [] ps)->(∀b o,s.heap.get? b=some o->x.get? b=some o)->Q (.ref s.heap.objs.size) { s with heap:=x,toks:=tk }) :
  wpAny (model prog w) A (call (.type "dict") [.ref l]) Q E s:=by
 refine callType_codes (Q₁:=fun y m=>y=.ref s.heap.objs.size/\m={ s with heap:=s.heap.push { cls:=.type "dict",data:=.dict #[] } }) F.kt_called_dict (F.kt_typeCall_dict_1 _) F.entry_dict_init (kt_code_dict_new _ ⟨rfl,rfl⟩) ?_;rintro y m ⟨rfl,rfl⟩;have f:(s.heap.push { cls:=.type "dict",data:=.dict #[] }).DictOf (cF prog w) s.heap.objs.size []:=Heap.DictOf.new s.heap;have p:(s.heap.push { cls:=.type "dict",data:=.dict #[] }).get? l=some o:=bh _ U;have z:l<s.heap.objs.size:=aQ U;refine⟨f.typeIs,F.args_dict_init_2 _ _,?_⟩;unfold cT.«dict.__init__»;refine ar ?_;unfold cT.Dict.selfAndRest;refine ar (wpAny_notOrdered_dict f.typeIs ?_);show wpAny _ _ (pure (s.heap.objs.size,[Value.ref l])) _ _ _;refine be ?_;show wpAny _ _ (cT.Dict.updateFrom "dict.__init__" s.heap.objs.size (.ref l) [] .none) _ _ _;unfold cT.Dict.updateFrom;have N:Shared.TypeIs { s with heap:=s.heap.push { cls:=.type "dict",data:=.dict #[] } } (.ref l) "list":=⟨o,p,J⟩;refine ar (wpAny_typeOf N ?_);rw[if_pos (by decide)];refine ar (DM p J v L T fun q O k1=>?_);have k:∀b I,(s.heap.push { cls:=.type "dict",data:=.dict #[] }).get? b=some I->q.get? b=some I:=k1;rw[if_pos (by rfl:(none:Option Value).isNone=true)];refine ar (rk ?_);have B:q.IsList l items:=⟨o,k _ _ p,J,n,v⟩;refine ar (B0 (s:={ s with heap:=q,toks:=O }) B ?_);have C:q.DictOf (cF prog w) s.heap.objs.size []:=by
  obtain⟨Y,es,ep,g,r⟩:=f;exact⟨Y,es,ep,k _ _ g,r⟩
 have i:s.heap.objs.size<q.objs.size:=by
  obtain⟨Y,es,ep,g,r⟩:=C;exact aQ g
 refine be ⟨plainId_quiet fW _,?_⟩;refine EC (A:=A.in1) (prog:=prog) (w:=w) T (D:=s.heap.objs.size) (it:=q.objs.size) (l:=l) (items:=items) (ps:=ps) (cw i) (cw (Nat.lt_trans z i)) (cw z) M items.size 0 _ [] (sV _) (cf _) (by rw[pH];omega)
  ⟨_,dJ _ rfl,rfl,rfl⟩ (B.push _) (C.push _) (fun j u H a b=>?_) fun x tk G kp=>?_
 ·obtain⟨t,ku,e,ht,hk⟩:=hp j u H a b;obtain⟨ot,g,r⟩:=ht;exact⟨t,ku,e,⟨ot,bh _ (k _ _ (bh _ g)),r⟩,hk⟩
 ·rw[kT]at G;refine⟨rfl,h x tk G fun b I e=>kp b I (cw (aQ e)) (cw (Nat.lt_trans (aQ e) i)) (bh _ (k _ _ (bh _ e)))⟩
end
section
variable{X:Cx}
theorem yC(hc:X.calm=true):g7 X (.type "dict") (fun xs H Q=>∃(l:Addr) (k:Ze) (f:List (eE×V)),xs=[.ref l]/\aA X.K H l (k.map V.ref)/\k.length=f.length /\
  (∀(j:Nat) (t:Addr) (g:eE×V),k[j]?=some t->f[j]?=some g->H t=some (.tup [kV g.1,g.2]))/\∀p,H p=none->Q (.ref p) (upd H p (.dK (jy [] f)))):=by
 intro J6 s σ H xs us Q I r h;obtain⟨l,k,f,rfl,v,z,E,q⟩:=h;obtain⟨u,rfl,ru⟩:=vals1 r;cases ru;obtain⟨G,rv,⟨o,n,ho,J,L,M⟩,N⟩:=I.list v;have O:∀(k:Ze) (f:List (eE×V)),k.length=f.length->(∀(j:Nat) (t:Addr) (g:eE×V),k[j]?=some t->f[j]?=some g->H t=some (.tup [kV g.1,g.2]))->∃y:List (eE×Value),KV f y/\∀(j:Nat) (t:Addr) (g:eE×Value),k[j]?=some t->y[j]?=some g->BI s.heap (.ref t) g:=by
  intro k
  induction k with
  |nil =>
   intro f v _;cases f with
   |nil=>exact⟨[],.nil,fun j t g e=>by simp at e⟩
   |cons _ _=>cases v
  |cons t k ih =>
   intro f v E;cases f with
   |nil=>cases v
   |cons g f =>
    obtain⟨y,T,r2⟩:=ih f (by simpa using v) fun j U m a b=>E (j+1) U m (by simpa using a) (by simpa using b);obtain⟨_,ab,rt,p⟩:=(show cN X.prog X.w X.K H s.heap t (.tup [kV g.1,g.2])from I.hok t _ (E 0 t g rfl rfl));obtain⟨a,b,e,ra,rb⟩:=rt.two;subst e;refine⟨(g.1,b)::y,.cons ⟨rfl,rb⟩ T,fun j U m B Y=>?_⟩;cases j with
    |zero =>
     simp at B Y;subst B Y;exact⟨t,a,rfl,p,rE (P:=X.prog) (w:=X.w) ra⟩
    |succ j=>exact r2 j U m (by simpa using B) (by simpa using Y)
 obtain⟨y,C,pa⟩:=O k f z E;have D:=rv.length;rw[aq]at D;have ai:=C.length;refine sh (prog:=X.prog) (w:=X.w) (ps:=y) (I.ok.hd hc) ho J M L (by rw[b_];omega) (fun j u g a b=>?_) (by rw[b_,<-D];rw[aq]at N;exact N) fun h' tk hD kp=>?_
 ·have a':G[j]?=some u:=by simpa using a
  have hj:j<k.length:=by
   have:=(dg.mp a').1;omega
  obtain⟨u',e1,T⟩:=rv.get (i:=j) (x:=V.ref k[j]) (by simp[hj]);rw[a']at e1;cases e1;cases(show u=Value.ref k[j]from T);exact pa j k[j] g (by simp[hj]) b
 ·have hm:(jy [] f).length<=ao:=by
   have B:=mH f [];rw[pH]at B;rw[aq]at N;omega
  exact⟨.ref s.heap.objs.size,_,I.laid (o:=.dK (jy [] f)) kp (aG _) (Gm hm (beq_eq_false_iff_ne.mpr (cZ (cw I.big))) (C.merge .nil) hD),rfl,q _ I.fresh⟩
end
abbrev eM:R2:=Cy fun i j=>.int (i+j)
abbrev Fm:R2:=Cy fun i j=>.int (i-j)
abbrev lr:R2:=rI GD fun i j=>.int (i * j)
abbrev ji:R2:=rI (fun _ j=>0<j) fun i j=>.int (i % j)
abbrev Fn:R2:=rI K2 fun i j=>.int (i / j)
abbrev Ii:R2:=rI K1 fun i j=>.int (i ^ j.toNat)
abbrev A9:R2:=Cy fun i j=>.bl (decide (i<j))
abbrev Jf:R2:=Cy fun i j=>.bl (decide (i<=j))
abbrev DC:R2:=Cy fun i j=>.bl (decide (j<i))
abbrev rGeI:R2:=Cy fun i j=>.bl (decide (j<=i))
abbrev fL:R2:=fun x y H Q=>∃i j,x=.str i/\y=.str j/\i.length+j.length<=ao/\Q (.str (i++j)) H
abbrev Ku:R2:=fun x y H Q=>∃c j,x=.str ⟨#[c]⟩/\y=.str j/\Q (.bl (decide (c∈j.cps.toList))) H
abbrev r_(K:Za):List V->Hp->VK->Prop:=fun xs H Q=>∃x c t b,xs=[x,.ty c]/\TyX K H x t/\yW K t (.type c)=some b/\Q (.bl b) H
abbrev DE(K:Za):List V->Hp->VK->Prop:=fun xs H Q=>∃(p:Addr) (bs:List Bool),xs=[.ref p]/\aA K H p (bs.map V.bl)/\Q (.bl (bs.all id)) H
abbrev Ih(K:Za):List V->Hp->VK->Prop:=fun xs H Q=>∃p ys,xs=[.ref p]/\((aA K H p ys/\∀l,H l=none->Q (.ref l) (upd H l (.tup ys)))∨(cq K H p ys/\Q (.ref p) H))
abbrev He(K:Za):List V->Hp->VK->Prop:=fun xs H Q=>∃(l:Addr) (ts:Ze) (kvs:List (eE×V)),xs=[.ref l]/\aA K H l (ts.map V.ref)/\ts.length=kvs.length /\
  (∀(j:Nat) (t:Addr) (kv:eE×V),ts[j]?=some t->kvs[j]?=some kv->H t=some (.tup [kV kv.1,kv.2]))/\∀p,H p=none->Q (.ref p) (upd H p (.dK (jy [] kvs)))
abbrev fU(K:Za):List V->Hp->VK->Prop:=fun xs H Q =>
 (∃p ys,xs=[.ref p]/\(aA K H p ys∨cq K H p ys)/\∀l,H l=none->Q (.ref l) (upd H l (.lst ys))) ∨
 (∃(d:Addr) (kvs:List (eE×V)),xs=[.ref d]/\Rd H d (.dK kvs)/\∀l,H l=none->Q (.ref l) (upd H l (.lst (kvs.map fun kv=>kV kv.1))))
abbrev cD(K:Za):List V->Hp->VK->Prop:=fun xs H Q =>
 (∃p ys,xs=[.ref p]/\(aA K H p ys∨cq K H p ys)/\Q (.int ys.length) H)∨(∃z,xs=[.str z]/\z.length<=ao/\Q (.int z.length) H)
theorem eR:je "isinstance"=some (.builtin "isinstance"):=by decide +kernel
theorem uL:je "list"=some (.type "list"):=by decide +kernel
theorem lL:je "tuple"=some (.type "tuple"):=by decide +kernel
theorem BF:je "dict"=some (.type "dict"):=by decide +kernel
theorem BG:je "bool"=some (.type "bool"):=by decide +kernel
theorem Ee:je "int"=some (.type "int"):=by decide +kernel
theorem Ed:je "str"=some (.type "str"):=by decide +kernel
section
variable{X:Cx}{p pos:Pos}
theorem Eb:g7 X (.builtin "len") (cD X.K):=yB.or yz
theorem BE(a:X.calm=true):g7 X (.type "list") (fU X.K):=yy.or (uK a)
theorem ni(a:Gl X "bool")(e:X.mg "bool"=none):PE X (.Name "bool" pos) (tC (.ty "bool")):=oR a e BG rfl
theorem vW(a:Gl X "int")(e:X.mg "int"=none):PE X (.Name "int" pos) (tC (.ty "int")):=oR a e Ee rfl
theorem vV(a:Gl X "str")(e:X.mg "str"=none):PE X (.Name "str" pos) (tC (.ty "str")):=oR a e Ed rfl
theorem t_(a:Gl X "list")(e:X.mg "list"=none):PE X (.Name "list" pos) (tC (.ty "list")):=oR a e uL rfl
theorem rp(a:Gl X "tuple")(e:X.mg "tuple"=none):PE X (.Name "tuple" pos) (tC (.ty "tuple")):=oR a e lL rfl
end
def Gc(mg:Str->Option Value)(x:Str)(v:V):Prop:=∃u,mg x=some u/\RelV v u
theorem jK{X:Cx}{x:Str}{v:V}{a:Pos}(e:Gl X x)(h:Gc X.mg x v)(f:(x==("__debug__":Str))=false:=by decide):PE X (.Name x a) (tC v):=by
 obtain⟨u,g,r⟩:=h;exact Hk e g r f
structure i8(P:bF)(w:World)(K:Za)(mg:Str->Option Value)(base:Heap)(x:Str)(ps:Zb)(k:Nat)(sp:Sp):Prop where
 ex:∃f fd,iX P w K mg base CX0 k f fd ps sp/\mg x=some (.ref f)/\eF K (.ref f)=true/\Binds K fd ps []
structure JV(P:bF)(w:World)(K:Za)(mg:Str->Option Value)(base:Heap)(C:Addr)(m:Str)(ps:Zb)(k:Nat)(sp:Sp):Prop where
 ex:∃f fd,iX P w K mg base CX0 k f fd ps sp/\Eu K C/\JX K C m f/\Binds K fd ps []
section
variable{X:Cx}{k:Nat}{ps:Zb}{sp:Sp}{x m:Str}{C:Addr}{p pos J8:Pos}{o e:Expr}{es:List Expr}{t:TA}{ta:TE}
theorem Io(D:i8 X.prog X.w X.K X.mg X.base x ps k sp)(h:dQ k X.A)(i:Gl X x)(j:PA X (e::es) t)(a:(x==("__debug__":Str))=false:=by decide)
  (l:aB (e::es) X.env=(false,eval e X.env)::aB es X.env:=by rfl) (g:(backTo pos (aB es X.env)).any (·.1)=false:=by rfl) :
  PE X (.Call (.Name x p) (e::es) [] pos) (aW sp t):=by
 obtain⟨f,s,F,n,q,r⟩:=D.ex;exact CF F h i n q r .nil FF j a l g
theorem FB(D:i8 X.prog X.w X.K X.mg X.base x ps k sp)(g:dQ k X.A)(h:Gl X x)(a:(x==("__debug__":Str))=false:=by decide):
  PE X (.Call (.Name x p) [] [] pos) (aW sp bS):=by
 obtain⟨f,n,F,i,j,l⟩:=D.ex;exact FE F g h i j l .nil FF a
theorem Hj{pl:Sem Bool}(M:JV X.prog X.w X.K X.mg X.base C m ps k sp)(g:dQ k X.A)(h:PE X o ta)
  (i:eval (.Call (.Attribute o m J8) [] [] pos) X.env=(do
   let a <- eval o X.env
   vB J8.atName
   let(f,first) <- nS [a] (vx a m pl)
   wY pos f first (backTo pos (aB [] X.env)) (mW pos (mV [] X.env))):=by rfl) :
  PE X (.Call (.Attribute o m J8) [] [] pos) (tM C m sp [] E0 ta bS):=by
 obtain⟨f,n,F,c,j,l⟩:=M.ex;exact Fz h c j F g l .nil FF i
end
def KC(K:Za)(tl:TE):TI:=fun σ H R=>tl σ H fun x H1=>∃a,x=.ref a/\(((∃xs,aA K H1 a xs)/\R (IK K a) H1)∨((∃xs,cq K H1 a xs)/\R (Kf K a) H1))
theorem Jl{X:Cx}{u l:Expr}{r:TE}(w:PE X l r):PI X u l (KC X.K r):=by
 intro t s σ H R I h;refine cA (w t s σ H _ I h) fun v f j=>?_;obtain⟨x,k,g,y,z⟩:=j;obtain⟨a,e,q⟩:=z;subst e;cases y;have i:∀b∈[f.heap.objs.size],lN X t k b:=fun b B=>by
  have e:b=f.heap.objs.size:=by simpa using B
  subst e;exact g.fpOk (aG _) (g.hok.fresh (aG _))
 rcases q with⟨⟨xs,m⟩,q⟩|⟨⟨xs,m⟩,q⟩
 ·obtain⟨n,C,p,D⟩:=g.list m;refine B0 p.isList ?_;exact⟨f.heap.objs.size,[f.heap.objs.size],_,_,k,rfl,g.kept (t':=f.toks) fun b o e=>bh _ e,vG a _,⟨_,dJ _ rfl,rfl,rfl⟩,i,q⟩
 ·obtain⟨n,C,p,D⟩:=g.tuple m;refine BZ p ?_;exact⟨f.heap.objs.size,[f.heap.objs.size],_,_,k,rfl,g.kept (t':=f.toks) fun b o e=>bh _ e,tE a _,⟨_,dJ _ rfl,rfl,rfl⟩,i,q⟩
theorem fz{K:Za}{a:Addr}{xs:List V}{g:TG}{k:TS}{D:iw}{σ:St}{H:Hp}(Pv:Nat->St->Hp->Prop)(n:Pv 0 σ H)(o:∀i σ H,i<=xs.length->Pv i σ H->aA K H a xs)
  (r:∀i x σ H p,xs[i]?=some x->Pv i σ H->H p=none->g (.ref p) σ (upd H p (.tup [.int i,x])) fun σ2 j=>k { D with nx:=Pv (i+1),ct:=Pv (i+1),bk:=D.nx } σ2 j) (s:∀σ H,Pv xs.length σ H->D.nx σ H) :
  ∃W:Nat->Nat->St->Hp->Prop,(∃m,W 0 m σ H)/\∀i m σ H,W i m σ H ->
   ((KU K a).stop i H/\D.nx σ H)∨((KU K a).go i H/\∃N:St->Hp->Prop,(∀σ' f,N σ' f->∃l,l<m/\W (i+1) l σ' f)/\∀x f,(KU K a).yld i H x f->g x σ f fun σ2 j=>k { D with nx:=N,ct:=N,bk:=D.nx } σ2 j):=by
 refine⟨fun i m σ H=>m=xs.length-i/\i<=xs.length/\Pv i σ H,⟨xs.length,by simp,cf _,n⟩,?_⟩;rintro i m σ H ⟨rfl,hi,p⟩;have q:=o i σ H hi p;by_cases h:i<xs.length
 ·refine .inr ⟨⟨xs,xs[i],q,by simp[h]⟩,Pv (i+1),fun σ' f u=>⟨xs.length-(i+1),by omega,rfl,h,u⟩,fun x f y=>?_⟩;obtain⟨t,v,rfl,w,z,rfl⟩:=y;exact r i v σ H t (z xs q) p w
 ·have e:i=xs.length:=by omega
  subst e;exact .inl ⟨⟨xs,q,aG _⟩,s σ H p⟩
def Wc(n:Nat)(Pv:Nat->List V->Hp->Prop):Nat->Nat->List V->Hp->Prop:=fun i m vs H=>m=n-i/\i<=n/\Pv i vs H
theorem uf{n i:Nat}{Pv:Nat->List V->Hp->Prop}{a:List V}{H:Hp}(hi:i<n)(p:Pv (i+1) a H):∃m',m'<n-i/\Wc n Pv (i+1) m' a H:=⟨n-(i+1),by omega,rfl,hi,p⟩
abbrev lO(k:Nat)(fi:List Nat)(σ:St)(J:It)(g:TG)(tc:TT)(te:TE)(H1:Hp)(l:Addr)(Q:Hp->Prop):Prop :=
 ∃W:Nat->Nat->List V->Hp->Prop,(∃m,W 0 m [] (upd H1 l (.lst [])))/\∀i m vs H2,W i m vs H2->H2 l=some (.lst vs) /\
  ((J.stop i H2/\Q H2)∨(J.go i H2/\∀x H3,J.yld i H2 x H3->g x (eB k fi σ) H3 fun σ2 H4=>tc σ2 H4 fun b H5 =>
   if b=true then te σ2 H5 fun v H6=>H6 l=some (.lst vs)/\vs.length<ao/\∃m',m'<m/\W (i+1) m' (vs++[v]) (upd H6 l (.lst (vs++[v])))else ∃m',m'<m/\W (i+1) m' vs H5))
theorem o8{k:Nat}{r:List Nat}{J:It}{g:TG}{s:TT}{t:TE}{σ:St}{u:Hp}{Q:Hp->Prop}{l:Addr}(n:Nat)(Pv:Nat->List V->Hp->Prop)(B:Pv 0 [] (upd u l (.lst [])))
  (C:∀i a H,i<=n->Pv i a H->H l=some (.lst a)) (o:∀i a H,i<n->Pv i a H->J.go i H) (q:∀a H,Pv n a H->J.stop n H/\Q H)
  (D:∀i a H x j,i<n->Pv i a H->J.yld i H x j->g x (eB k r σ) j fun σ2 E=>s σ2 E fun b w =>
   if b=true then t σ2 w fun v z=>z l=some (.lst a)/\a.length<ao/\∃f,f<n-i/\Wc n Pv (i+1) f (a++[v]) (upd z l (.lst (a++[v])))else ∃f,f<n-i/\Wc n Pv (i+1) f a w) :
  lO k r σ J g s t u l Q:=by
 refine⟨Wc n Pv,⟨n,by simp[Wc],cf _,B⟩,?_⟩;rintro i m a H ⟨rfl,hi,p⟩;refine⟨C i a H hi p,?_⟩;by_cases h:i<n
 ·exact .inr ⟨o i a H h p,fun x j y=>D i a H x j h p y⟩
 ·have e:i=n:=by omega
  subst e;exact .inl (q a H p)
section
variable{K:Za}{k:Nat}{fi:List Nat}{g:TG}{tc:TT}{te:TE}{σ:St}{H1:Hp}{Q:Hp->Prop}{l:Addr}
theorem cU{a:Addr}{xs:List V}(Pv:Nat->List V->Hp->Prop)(n:Pv 0 [] (upd H1 l (.lst [])))
  (h:∀i e H,i<=xs.length->Pv i e H->H l=some (.lst e)/\aA K H a xs) (o:∀e H,Pv xs.length e H->Q H)
  (q:∀i e H x,xs[i]?=some x->i<xs.length->Pv i e H->g x (eB k fi σ) H fun σ2 r=>tc σ2 r fun b j =>
   if b=true then te σ2 j fun v m=>m l=some (.lst e)/\e.length<ao/\∃f,f<xs.length-i/\Wc xs.length Pv (i+1) f (e++[v]) (upd m l (.lst (e++[v])))else ∃f,f<xs.length-i/\Wc xs.length Pv (i+1) f e j) :
  lO k fi σ (IK K a) g tc te H1 l Q:=by
 refine o8 xs.length Pv n (fun i e H hi p=>(h i e H hi p).1) (fun i e H hi p=>⟨xs,xs[i],(h i e H (c6 hi) p).2,by simp[hi]⟩) (fun e H p=>⟨⟨xs,(h _ e H (aG _) p).2,aG _⟩,o e H p⟩) fun i e H x s hi p y=>?_;obtain⟨rfl,y⟩:=y;exact q i e _ x (y xs (h i e _ (c6 hi) p).2) hi p
theorem uG{lo:Int}{n:Nat}(Pv:Nat->List V->Hp->Prop)(j:Pv 0 [] (upd H1 l (.lst [])))
  (m:∀i a H,i<=n->Pv i a H->H l=some (.lst a)) (o:∀a H,Pv n a H->Q H)
  (q:∀i a H,i<n->Pv i a H->g (.int (lo+i)) (eB k fi σ) H fun σ2 r=>tc σ2 r fun b f =>
   if b=true then te σ2 f fun v h=>h l=some (.lst a)/\a.length<ao/\∃e,e<n-i/\Wc n Pv (i+1) e (a++[v]) (upd h l (.lst (a++[v])))else ∃e,e<n-i/\Wc n Pv (i+1) e a f) :
  lO k fi σ (JZ lo n) g tc te H1 l Q:=by
 refine o8 n Pv j m (fun i a H hi p=>hi) (fun a H p=>⟨aG _,o a H p⟩) fun i a H x s hi p y=>?_;obtain⟨rfl,rfl⟩:=y;exact q i a _ hi p
theorem Aa{x:Str}(Pv:Nat->List V->Hp->Prop)(j:Pv 0 [] (upd H1 l (.lst [])))
  (m:∀i a H,i<=x.cps.size->Pv i a H->H l=some (.lst a)) (n:∀a H,Pv x.cps.size a H->Q H)
  (o:∀i a H c,x.cps[i]?=some c->i<x.cps.size->Pv i a H->g (.str ⟨#[c]⟩) (eB k fi σ) H fun σ2 q=>tc σ2 q fun b f =>
   if b=true then te σ2 f fun v h=>h l=some (.lst a)/\a.length<ao/\∃e,e<x.cps.size-i/\Wc x.cps.size Pv (i+1) e (a++[v]) (upd h l (.lst (a++[v])))else ∃e,e<x.cps.size-i/\Wc x.cps.size Pv (i+1) e a f) :
  lO k fi σ (Lf x) g tc te H1 l Q:=by
 refine o8 x.cps.size Pv j m (fun i a H hi p=>hi) (fun a H p=>⟨aG _,n a H p⟩) fun i a H y t hi p r=>?_;obtain⟨rfl,c,s,rfl⟩:=r;exact o i a _ c s hi p
end
theorem gN{j:Nat}{x:V}{σ:St}{H:Hp}{Q:St->Hp->Prop}(h:Q (σ.set j (some x)) H):d_ j x σ H Q:=h
theorem pO{σ:St}{H:Hp}{A B:Hp->Prop}(h:A H):jx σ H (fun b a=>if b=true then A a else B a):=by
 show(if(true:Bool)=true then A H else B H)
 exact h
inductive Ld{T0 T1:Type}(P:T0->T1->Prop):Prop
 |mk (x0:T0) (x1:T1):P x0 x1->Ld P
inductive NE3{T0 T1 T2:Type}(P:T0->T1->T2->Prop):Prop
 |mk (x0:T0) (x1:T1) (x2:T2):P x0 x1 x2->NE3 P
inductive NA5(p0 p1 p2 p3 p4:Prop):Prop
 |mk:p0->p1->p2->p3->p4->NA5 p0 p1 p2 p3 p4
inductive NA6(p0 p1 p2 p3 p4 p5:Prop):Prop
 |mk:p0->p1->p2->p3->p4->p5->NA6 p0 p1 p2 p3 p4 p5
end L2
end

section
set_option Elab.async false
set_option linter.all false
set_option maxRecDepth 100000
namespace L2
open PySem PySem.Spec PyProof.Rows
theorem Obj.mapF{o:Obj}{a:Array Value}(e:o.data=.fields a)(f:Array Value->Array Value):o.mapFields f={ o with data:=.fields (f a) }:=by
 obtain⟨c,d,g,h⟩:=o;cases e
 rfl
structure GC(fs:Ze)(e:Addr)(T:Option Addr)(h h':Heap):Prop where
 keep:∀b o,h.get? b=some o->b≠e->some b≠T->b∉fs->h'.get? b=some o
 slot:∀b o,h.get? b=some o->b≠e->some b≠T->b∈fs->∃sl,h'.get? b=some { o with slots:=sl }
 there:∀b o,h.get? b=some o->∃o',h'.get? b=some o'
def Trc(n:Nat)(h:Heap)(e:Addr)(vs:Array Value)(T:Option Addr):Prop :=
 (vs[1]?=some .none/\T=none)∨∃t oT ts,T=some t/\vs[1]?=some (.ref t)/\n<=t/\t≠e/\h.get? t=some oT/\oT.data=.fields ts/\ts[3]?=some .none
section
variable{M:Model}{A:Around}{E:Zc}{s:Shared}{base:Heap}{env:Env}{outer:List Env}{L e:Addr}{oe:Obj}{vs:Array Value}{Q:Unit->Shared->Prop}
theorem Ca{g:Value}{i:Bool}(w:A.frames=some (env::outer))(C:s.heap.FunFrames base (env::outer))(hf:env.frame=some L)
  (D:s.heap.get? e=some oe) (u:oe.data=.fields vs) (l:1<vs.size)
  (h:∀v p G H,GC (mI (env::outer)) e none s.heap v->v.get? e=some { oe with data:=.fields p }->p[1]?=some (.ref s.heap.objs.size) ->
   v.get? s.heap.objs.size=some G->G.data=.fields H->H[3]?=some .none->Q () { s with heap:=v }) :
  wpAny M A (do let fr <- frameOf env;let pl <- entryPlaceOf L i;let nw <- wF g fr .none (rawInt L) .none pl;setField (.ref e) 1 nw) (fun _ s'=>wpAny M A (j3 (.ref e) none) Q E s') E s:=by
 have y:e∉mI (env::outer):=fun z=>by
  obtain⟨_,o,n,q2⟩:=C.mem z;rw[D]at n;cases n;exact q2 vs u
 refine ar (wpAny_frameOf_fun w C hf fun a r=>ar (wpAny_entryPlaceOf fun pl t=>?_));unfold wF newFields;refine ar (s_ ?_ (t.sizeOk5 _ _ _ _ _));generalize I:({ cls:=.type "traceback",dict:=none,data:=.fields ([g,.ref L,.none,rawInt L,.none]++(if pl.isEmpty then lf 6 Value.none else pl)).toArray }:Obj)=j
 have B:j.data=.fields ([g,.ref L,.none,rawInt L,.none]++(if pl.isEmpty then lf 6 Value.none else pl)).toArray:=by rw[<-I]
 have fN:j.isFreed=false:=by rw[<-I];rfl
 have J:a.get? e=some oe:=(r.2.1 e y).trans D;have N:=bh (h:=a) j J;have O:a.objs.size=s.heap.objs.size:=r.1;refine ju N u l ?_;have ne:a.objs.size≠e:=eV (aQ J);have T:=hJ u (·.setIfInBounds 1 (Value.ref a.objs.size));have U:=hW (c9 (·.setIfInBounds 1 (Value.ref a.objs.size))) N (kU T);have Y:((a.push j).update e (c9 (·.setIfInBounds 1 (Value.ref a.objs.size)))).get? a.objs.size=some j:=(fG (a.push j) _ (cZ ne)).trans (dJ a fN);unfold j3;refine ar (cx U T (x:=.ref a.objs.size) (by simp[l]) ?_);rw[if_pos (show(Value.ref a.objs.size != Value.none)=true from by simp)];refine ju Y B (by simp only[b_,aV,bP,pH]<;>omega) ?_;have t4:=hW (c9 (·.setIfInBounds 3 ((none:Option Addr).elim Value.none fun f=>rawInt f))) Y (kU (hJ B _));have m:∀b o,b≠e->a.get? b=some o->(((a.push j).update e (c9 (·.setIfInBounds 1 (Value.ref a.objs.size)))).update a.objs.size (c9 (·.setIfInBounds 3 ((none:Option Addr).elim Value.none fun f=>rawInt f)))).get? b=some o:=fun b o k q=>by
  rw[fG _ _ (eV (aQ q)),fG _ _ (cZ k)];exact bh _ q
 have e4:(((a.push j).update e (c9 (·.setIfInBounds 1 (Value.ref a.objs.size)))).update a.objs.size (c9 (·.setIfInBounds 3 ((none:Option Addr).elim Value.none fun f=>rawInt f)))).get? e=some { oe with data:=.fields (vs.setIfInBounds 1 (Value.ref a.objs.size)) }:=by
  rw[fG _ _ ne,U,Obj.mapF u]
 refine h _ _ _ _ ⟨fun b o q k _ nf=>m b o k ((r.2.1 b nf).trans q),fun b o q k _ nf=>?_,fun b o q=>?_⟩ e4 ?_ (by rw[<-O];exact t4) (hJ B _) ?_
 ·obtain⟨sl,n⟩:=r.2.2 b o q;exact⟨sl,m b _ k n⟩
 ·by_cases k:b=e
  ·rw[k];exact⟨_,e4⟩
  ·obtain⟨sl,n⟩:=r.2.2 b o q;exact⟨_,m b _ k n⟩
 ·rw[<-O];simp[l]
 ·first|(simp;done)|(rcases t with rfl|⟨_,_,_,_,_,_,_,rfl⟩<;>simp)
theorem IN{n:Nat}{T:Option Addr}(l:A.frames=some (env::outer))(C:s.heap.FunFrames base (env::outer))(hf:env.frame=some L)
  (v:s.heap.get? e=some oe) (w:oe.data=.fields vs) (ht:Trc n s.heap e vs T)
  (h:∀k i D m,GC (mI (env::outer)) e T s.heap k->k.get? e=some { oe with data:=.fields i }->i[1]?=some (.ref s.heap.objs.size) ->
   k.get? s.heap.objs.size=some D->D.data=.fields m->m[3]?=some .none->Q () { s with heap:=k }):wpAny M A (j5 (.ref e) env) (fun _ s'=>wpAny M A (j3 (.ref e) none) Q E s') E s:=by
 unfold j5;simp only[hf];rcases ht with⟨p,rfl⟩|⟨t,D,m,rfl,p,_,G,r,a,U⟩
 ·refine ar (cx v w p ?_);rw[if_neg (by decide)];exact Ca l C hf v w (e_.mp p).1 h
 ·refine ar (cx v w p ?_);rw[if_pos (show(Value.ref t != Value.none)=true from by simp)];refine ar (cx r a U ?_);rw[if_neg (show ¬((Value.none==rawInt L)=true)from by simp[rawInt])];refine ar (ju r a (e_.mp U).1 ?_);have f:∀b,b≠t->(s.heap.update t (c9 (·.setIfInBounds 3 Value.none))).get? b=s.heap.get? b:=fun b g=>fG _ _ (cZ g);have tt:=hW (c9 (·.setIfInBounds 3 Value.none)) r (kU (hJ a _));have ab:t∉mI (env::outer):=fun z=>by
   obtain⟨_,o,x,y⟩:=C.mem z;rw[r]at x;cases x;exact y m a
  have u:∀b o,s.heap.get? b=some o->(∀ws,o.data≠.fields ws)->b≠t:=fun b o g j q=>by
   rw[q,r]at g;cases g;exact j m a
  have sz:(s.heap.update t (c9 (·.setIfInBounds 3 Value.none))).objs.size=s.heap.objs.size:=Heap.size_after_update ..;refine Ca (s:={ s with heap:=s.heap.update t (c9 (·.setIfInBounds 3 Value.none)) }) l (C.of_keeps fun b o g j=>⟨o,(f b (u b o g j)).trans g,rfl⟩) hf ((f e (cZ G)).trans v) w (e_.mp p).1 ?_;intro k i H I B x y Y q4 q5;rw[sz]at y Y;refine h k i H I ⟨fun b o q J N O=>B.keep b o ((f b fun z=>N (by rw[z])).trans q) J (by simp) O,fun b o q J N O=>B.slot b o ((f b fun z=>N (by rw[z])).trans q) J (by simp) O,fun b o q=>?_⟩ x y Y q4 q5;by_cases g:b=t
  ·rw[g];exact B.there t _ tt
  ·exact B.there b o ((f b g).trans q)
end
def ib(a C:Addr)(od:Option Addr):Heap->Prop:=fun h=>∃vs,h.get? a=some { cls:=.ref C,dict:=od,data:=.fields vs }/\1<vs.size
def cX(a C:Addr)(od:Option Addr):Heap->Prop:=fun h=>∃vs,h.get? a=some { cls:=.ref C,dict:=od,data:=.fields vs }/\vs[1]?=some .none
theorem qy{P:bF}{w:World}{K:Za}{H:Hp}{h:Heap}{a C:Addr}{g:Option Addr}{f:Array Value}(e:h.get? a=some { cls:=.ref C,dict:=g,data:=.fields f })(z:1<f.size):cN P w K H h a (.ext (ib a C g)) :=
 ⟨⟨f,e,z⟩,⟨_,e⟩,fun _ _ ⟨i,q,y⟩ k=>⟨i,k _ q,y⟩⟩
theorem qz{P:bF}{w:World}{K:Za}{H:Hp}{h:Heap}{a C:Addr}{g:Option Addr}{f:Array Value}(e:h.get? a=some { cls:=.ref C,dict:=g,data:=.fields f })(z:f[1]?=some .none):cN P w K H h a (.ext (cX a C g)) :=
 ⟨⟨f,e,z⟩,⟨_,e⟩,fun _ _ ⟨i,q,y⟩ k=>⟨i,k _ q,y⟩⟩
structure ii(n:Nat)(h:Heap)(H:Hp)(a C:Addr)(od:Option Addr):Prop where
 trk:H a=some (.ext (ib a C od))
 new:n<=a
 tr:∃vs T,h.get? a=some { cls:=.ref C,dict:=od,data:=.fields vs }/\1<vs.size/\Trc n h a vs T/\∀t,T=some t->H t=none
theorem ii.mono{n g:Nat}{h:Heap}{H:Hp}{a C:Addr}{i:Option Addr}(x:ii n h H a C i)(l:g<=n):ii g h H a C i :=
 ⟨x.trk,aP l x.new,let⟨j,T,e,z,k,f⟩:=x.tr;⟨j,T,e,z,by
  rcases k with q|⟨t,m,o,p,r,s,u⟩
  ·exact .inl q
  ·exact .inr ⟨t,m,o,p,r,aP l s,u⟩,f⟩⟩
theorem zU{P:bF}{w:World}{K:Za}{H:Hp}{h f:Heap}{fs:Ze}{a C:Addr}{j T:Option Addr}{e:Array Value}(ok:kO P w K H h)(k:H a=some (.ext (ib a C j)))(n:∀t,T=some t->H t=none)(i:∀b∈fs,H b=none)
  (p:GC fs a T h f) (s:f.get? a=some { cls:=.ref C,dict:=j,data:=.fields e }) (z:1<e.size):kO P w K H f:=fun b u q=>by
 by_cases l:b=a
 ·subst l;rw[k]at q;cases q;exact qy s z
 ·have m:∀c o v,H c=some v->c≠a->h.get? c=some o->f.get? c=some o:=fun c o v hc x g =>
   p.keep c o g x (fun z=>by rw[n c z.symm]at hc;cases hc) fun z=>by rw[i c z]at hc;cases hc
  refine(ok b u q).stay (fun c o hc g=>?_) (fun _ r=>r) fun _ _ r=>r;rcases hc with rfl|hc
  ·exact m c o u q l g
  ·exact m c o _ hc (fun z=>by rw[z,k]at hc;cases hc) g
structure kM(X:Cx)(J6:Zd)(n:Nat):Prop where
 s0:X.s₀.heap.objs.size<=n
 loc:X.env.locals<n
 cell:∀x c,X.env.cells.lookup x=some c->c<n
 pin:∀p∈X.pn++J6,p.1<n
theorem Inv.young{X:Cx}{a:Zd}{σ:St}{H:Hp}{s:Shared}(I:Inv X a σ H s):kM X a s.heap.objs.size :=
 ⟨I.sz,I.lt,fun x c e=>let⟨_,_,q,_⟩:=I.cell x c e;aQ q,fun p f=>aQ (I.pin p f).1⟩
section
variable{X:Cx}{J6:Zd}{σ:St}{H:Hp}{s:Shared}{n:Nat}{a C:Addr}{od:Option Addr}
theorem GK{M:Model}{Q:Unit->Shared->Prop}{E:Zc}(I:Inv X J6 σ H s)(y:kM X J6 n)(st:X.stack=X.env::X.outer)(L:X.env.frame=some X.env.locals)(j:ii n s.heap H a C od)
  (h:∀r,Inv X J6 σ H r->ii n r.heap H a C od->Q () r):wpAny M X.A (j5 (.ref a) X.env) (fun _ r=>wpAny M X.A (j3 (.ref a) none) Q E r) E s:=by
 obtain⟨vs,T,e,z,tr,fT⟩:=j.tr;have u:=I.stack;rw[st]at u;refine IN (n:=n) (base:=X.base) (by rw[I.ok.frames,st]) u L e rfl tr fun h' v oT ts w q1 q2 q3 q4 q5=>?_;have z':1<v.size:=(e_.mp q2).1;have O:∀b∈mI (X.env::X.outer),H b=none:=fun b f=>I.stkFree b (by rw[st];exact f);have U:=zU I.hok j.trk fT O w q1 z';have nT:∀t,T=some t->n<=t:=fun t k=>by
  rcases tr with⟨_,q⟩|⟨t',_,_,q,_,l,_⟩
  ·rw[q]at k;cases k
  ·rw[q]at k;cases k;exact l
 have Y:∀b,b≠X.env.locals->b∉X.fs->b∉mI (X.env::X.outer):=fun b h1 h2 f=>by
  unfold mI at f;rw[nU,L]at f;exact(bw.mp f).elim h1 h2
 have i:∀b,H b=none->b≠a:=fun b f q=>by rw[q,j.trk]at f;cases f
 obtain⟨m0,⟨oL,al,an,B,rL⟩,_⟩:=id I.loc;have D:X.env.locals∈mI (X.env::X.outer):=by unfold mI;rw[nU,L];exact bR
 have ab:some X.env.locals≠T:=fun q=>absurd (nT _ q.symm) (fP y.loc);obtain⟨ap,ai⟩:=w.slot _ oL B (i _ I.free) ab D;refine h _ (I.step (g':=s.gens) (d':=s.drawn) (t':=s.toks) (ch:=T.toList) (fun b f=>?_) (fun b o hL hf hc g G=>?_) (fun b o hL hf hc g G=>?_) (fun b o _ _ G=>G) (fun b o _ g=>w.there b o g)
  (fun _ _ g=>g) (fun _ _ _ g=>g) (fun b ps g=>⟨#[],by rw[g];simp⟩) (fun m hm=>?_) U I.bare) ⟨j.trk,j.new,v,some s.heap.objs.size,q1,z',.inr ⟨_,oT,ts,rfl,q2,?_,?_,q3,q4,q5⟩,fun t k=>?_⟩
 ·have hT:T=some b:=by cases T with
   |none=>simp at f
   |some t=>simp at f;rw[f]
  have N:=nT b hT;exact⟨.inr (aP y.s0 N),fun q=>absurd N (fP (q▸y.loc)),fun x c g q=>absurd N (fP (q▸y.cell x c g)),fun p hp q=>absurd N (fP (q▸y.pin p hp))⟩
 ·exact w.keep b o g (i b G) (fun q=>hc (by rw[<-q];simp)) (Y b hL hf)
 ·refine w.slot b o g (i b G) (fun q=>hc (by rw[<-q];simp)) ?_;unfold mI;rw[nU,L];exact bQ _ hf
 ·obtain⟨o',aj,ak,J,r'⟩:=hm;rw[B]at J;cases J;exact⟨_,aj,ak,ai,r'⟩
 ·exact aP (aP j.new (c6 (aQ e))) (aG _)
 ·exact eV (aQ e)
 ·cases k;exact I.hok.fresh (aG _)
theorem IP{M:Model}{Q:Unit->Shared->Prop}{E:Zc}(I:Inv X J6 σ H s)(y:kM X J6 n)(st:X.stack=X.env::X.outer)(f:X.env.frame=some X.env.locals)(g:ii n s.heap H a C od)
  (h:∀e,Inv X J6 σ H e->ii n e.heap H a C od->Q () e):wpAny M X.A (leaving X.env (.ref a)) Q E s:=by
 unfold leaving;exact ar (GK I y st f g h)
def Eo(P:bF)(w:World)(K:Za):En:=fun outer H s E e s'=>∃a C od H',e=.ref a/\s'.os=s.os/\mB s'.gens/\Un (mI outer) [] H H' s.heap s'.heap/\kO P w K H' s'.heap/\ii s.heap.objs.size s'.heap H' a C od/\E (.ref C) (some a) H'
def Lv(X:Cx)(E:XK):Prop:=∀(J6:Zd) (σ:St) (H:Hp) (s:Shared) (n:Nat) (a C:Addr) (od:Option Addr),Inv X J6 σ H s->kM X J6 n->ii n s.heap H a C od->E (.ref C) (some a) H->X.xe (.ref a) s
theorem Lv.passes{E:XK}(l:Lv X E):qI (Eo X.prog X.w X.K) X E:=fun J6 σ H s e h I ⟨a,C,od,i,j,os,f,un,g,k,q⟩=>by
 subst j;have m:=I.call' (s':=h) (ch:=[]) os un g f (fun b z=>absurd z (by simp));exact l J6 σ i h _ a C od m I.young k q
theorem ur{P:bF}{w:World}{K:Za}{i:Str->Option Value}{base:Heap}{N:Zb}{g:Str}{scope:Scope}{f:Addr}{cd:Value}{A:Around}{outer:List Env}{s:Shared}{H:Hp}{E:XK}:
  Lv (uD (Eo P w K) P w K i base N g scope f cd A outer s H E) E:=fun J6 σ j m n a C od I y k q=>by
 show wpAny _ _ _ _ _ _;refine IP I y rfl rfl k fun l e h=>⟨a,C,od,j,rfl,e.os,e.bare,e.base,e.hok,h.mono y.s0,q⟩
end
abbrev j_:List Value:=[.type "ValueError",.type "Exception",.type "BaseException",.type "object"]
inductive fj:List Value->Prop
 |base:fj j_
 |own {a:Addr}{r:Zf}:fj r->fj (.ref a::r)
theorem fj.has{l:Zf}(x:fj l){n:String}{b:Bool}(e:j_.contains (.type n)=b):l.contains (.type n)=b:=by
 induction x with
 |base=>exact e
 |own _ a=>rw[jt,a];rfl
section
variable{prog:bF}{w:World}{A:Around}{E:Zc}{h:Heap}{g:Array GenState}{d:Drawn}{t:Nat}{os:OsState}
variable{nm q:Str}{C N:Addr}{bs bm:Zf}{hdct:Bool}{sn:Zb}{sub:Zf}{ab:Bool}{col:Option Bool}{dd:Option Addr}{k0 k1 k2 k3 k5:Option Value}
theorem GN{M:Model}(e:fj bm){f:Zf}{Q:Unit->Shared->Prop}(a:h.get? C=some (g_ nm q C N bs bm hdct sn sub ab col dd k0 k1 k2 k3 k5 "ValueError.__new__"))
  (i:Q () ⟨h,g,d,t,os⟩):wpAny M A (wE "ValueError.__new__" ⟨.ref C::f,[]⟩) Q E ⟨h,g,d,t,os⟩:=by
 have G:=PySem.F.excBase_ValueError;have j:(Value.ref C::bm).contains (.type "ValueError")=true:=by rw[jt,e.has (b:=true) (by decide +kernel)];rfl
 have k:=G.noStar;simp only[wE,G.newKind,G.newSplit,G.newRow]
 repeat (first|refine jZ a ?_|(refine sU a ?_;rw[j])|refine wpAny_staticBase_exc a ?_|refine wpAny_madeBy_exc a ?_|simp only[bne_self_eq_false,tf,if_false] | wp_step)
 exact i
theorem Kh{R:Result->Shared->Prop}(a:fj bm){e:Zf}(f:h.get? C=some (g_ nm q C N bs bm hdct sn sub ab col dd k0 k1 k2 k3 k5 "ValueError.__new__"))(m:e.length<=ao)
  (i:R (.ok (.ret (.ref (h.objs.size+1)))) ⟨(h.push { cls:=.type "tuple",data:=.seq e.toArray }).push { cls:=.ref C,data:=.fields #[.ref h.objs.size,.none,.none,.none,.bool false,.none] },g,d,t,os⟩) :
  zzl88 (model prog w) A (.builtin "ValueError.__new__" ⟨.ref C::e,[]⟩) R ⟨h,g,d,t,os⟩:=by
 have G:=PySem.F.excBase_ValueError;have n:=G.ends;have j:(Value.ref C::bm).contains (.type "ValueError")=true:=by rw[jt,a.has (b:=true) (by decide +kernel)];rfl
 have k:(Value.ref C::bm).contains (.type "AttributeError")=false:=by rw[jt,a.has (b:=false) (by decide +kernel)];rfl
 have l:(Value.ref C::bm).contains (.type "NameError")=false:=by rw[jt,a.has (b:=false) (by decide +kernel)];rfl
 refine codeAny_builtinAt G.entry ?_;unfold cT.«BaseException.__new__»;refine PySem.wpAt_bind ?_;show PySem.wpAt _ _ _ (stack >>= _) _ _ _;refine PySem.wpAt_bind (PySem.wpAt_stack fun p below=>PySem.wpAt_of_wpAny ?_)
 wp_walk
 refine PySem.wpAt_of_wpAny ?_;rw[G.owner]
 repeat (first|with_reducible refine wpAny_madeHere_exc G.canon f ?_|with_reducible refine jZ f ?_|(with_reducible refine sU f ?_;first|rw[j] | rw[k] | rw[l])|wp_step)
 show R _ _;rw[kP];exact i
theorem GI(m:fj bm){a:Zf}{j:Addr}{n:Obj}{Q:Fin->Shared->Prop}(f:h.get? C=some (g_ nm q C N bs bm hdct sn sub ab col dd k0 k1 k2 k3 k5 "ValueError.__new__"))
  (hi:PySem.W.Looks (model prog w) h (pK (.ref C) "__init__") (some (.ref j))) (k:h.get? j=some n) (l:n.cls=.type "function") (u:a.length<=ao)
  (v:∀i,(∀b o,h.get? b=some o->i.get? b=some o)->i.objs.size=h.objs.size+2->i.get? (h.objs.size+1)=some { cls:=.ref C,data:=.fields #[.ref h.objs.size,.none,.none,.none,.bool false,.none] } ->
   wpAny (model prog w) A (call (.ref j) (.ref (h.objs.size+1)::a)) (fun r p=>r=.none/\Q (.done (.ret (.ref (h.objs.size+1)))) p) E ⟨i,g,d,t,os⟩) :
  wpAny (model prog w) A (cT.«type.__call__» ⟨.ref C::a,[]⟩) Q E ⟨h,g,d,t,os⟩:=by
 repeat (first|with_reducible refine jZ f ?_|with_reducible refine wpAny_madeBy_exc f ?_|wp_step)
 refine codeAny_call_builtin_code (Code.quiet_builtin _ PySem.F.excBase_ValueError.quiet) (GN m f (Kh m f u ?_));show wpAny _ _ _ _ _ _;have kp:∀b o,h.get? b=some o->((h.push { cls:=.type "tuple",data:=.seq a.toArray }).push { cls:=.ref C,data:=.fields #[.ref h.objs.size,.none,.none,.none,.bool false,.none] }).get? b=some o :=
  fun b o e=>bh _ (bh _ e)
 have y:=kp _ _ f;have s:((h.push { cls:=.type "tuple",data:=.seq a.toArray }).push { cls:=.ref C,data:=.fields #[.ref h.objs.size,.none,.none,.none,.bool false,.none] }).get? (h.objs.size+1)
  =some { cls:=.ref C,data:=.fields #[.ref h.objs.size,.none,.none,.none,.bool false,.none] }:=by heap_get
 have z:(Value.ref C::bm).contains (.ref C)=true:=by simp
 unfold y8
 repeat (first|with_reducible refine jZ s ?_|(with_reducible refine sU y ?_;rw[z])|wp_step)
 show wpAny _ _ (pK (.ref C) _) _ _ _;refine hi _ _ _ _ kp ?_;refine kW (ar ?_);unfold bindSpecial;refine ar (wpAny_typeOf (T:="function") ⟨_,kp _ _ k,l⟩ ?_);rw[if_pos (by decide)];refine be (ar (dF (v _ kp (by rw[kP,kP]) s) (fun r p B=>?_) fun _ _ x=>x));obtain⟨rfl,D⟩:=B
 wp_walk
 exact D
theorem IQ(m:fj bm){e:Zf}{i:Addr}{l:Obj}{Q:Zc}(f:h.get? C=some (g_ nm q C N bs bm hdct sn sub ab col dd k0 k1 k2 k3 k5 "ValueError.__new__"))
  (hi:PySem.W.Looks (model prog w) h (pK (.ref C) "__init__") (some (.ref i))) (j:h.get? i=some l) (k:l.cls=.type "function") (n:e.length<=ao)
  (p:∀a,(∀b o,h.get? b=some o->a.get? b=some o)->a.objs.size=h.objs.size+2->a.get? (h.objs.size+1)=some { cls:=.ref C,data:=.fields #[.ref h.objs.size,.none,.none,.none,.bool false,.none] } ->
   wpAny (model prog w) (A.under (.builtin "type.__call__" ⟨.ref C::e,[]⟩)) (call (.ref i) (.ref (h.objs.size+1)::e)) (fun r s=>r=.none/\Q (.ref (h.objs.size+1)) s) E ⟨a,g,d,t,os⟩) :
  wpAny (model prog w) A (call (.ref C) e) Q E ⟨h,g,d,t,os⟩:=by
 have u:=tc_lookup;have v:=tc_bind (.ref C);have x:(⟨h,g,d,t,os⟩:Shared).TypeIs (.ref C) "type":=⟨_,f,rfl⟩;refine mY (codeAny_of_tree ?_);show wpAny _ _ (callAny (.ref C) _) _ _ _
 repeat (any_goals (first|assumption|with_reducible refine jZ f ?_|wp_step))
 exact⟨rfl,codeAny_call_builtin_at (Code.quiet_builtin _ (by decide +kernel)) entry_typeCall (wpAny_check_type_call_sub f (GI m f hi j k n fun a a1 a2 a3=>p a a1 a2 a3))⟩
end
structure kE(K:Za)(C:Addr):Prop where
 obj:∃nm q N bs bm sn sub ab col dd k0 k1 k2 k3 k5,K.lookup C=some (g_ nm q C N bs bm true sn sub ab col dd k0 k1 k2 k3 k5 "ValueError.__new__")/\fj bm
 sa:cc K (.ref C) "__setattr__"=some (some (.builtin "object.__setattr__"))
 ga:cc K (.ref C) "__getattribute__"=some (some (.builtin "BaseException.__getattribute__"))
 gx:cc K (.ref C) "__getattr__"=some none
theorem kE.cd{K:Za}{C:Addr}(c:kE K C):∃cd,PySem.W.clsIn K C=some cd/\fj cd.mro/\cd.hasDict=true:=by
 obtain⟨f,q,N,bs,g,h,sub,i,a,j,k,l,m,n,o,e,v⟩:=c.obj;exact⟨_,by unfold PySem.W.clsIn;rw[e],.own v,rfl⟩
theorem fj.ne{l:Zf}(x:fj l):l.isEmpty=false:=by cases x<;>rfl
theorem zw(self:Value){l:Zf}(x:fj l):refuseLoop self "__setattr__" l=pure ():=by
 induction x with
 |base=>exact PySem.F.store_ValueError.passes self
 |own _ a=>rw[refuseLoop_ref];exact a
section
variable{prog:bF}{w:World}{A:Around}{E:Zc}{s:Shared}{K:Za}{x C:Addr}{od:Option Addr}{vs:Array Value}{name:Str}{v:Value}
open PySem.W
theorem HV{M:Model}{h:Heap}{cd:ClassData}(X:K.In h)(e:clsIn K C=some cd)(a:fj cd.mro){n:String}(f:j_.contains (.type n)=true):Looks M h (isSubtype (.ref C) (.type n)) true :=
 looks_mroIn X (by unfold mroIn;rw[e,Option.bind_some,if_neg (by rw[a.ne];decide),a.has f])
theorem IM{M:Model}{h:Heap}(hx:h.get? x=some { cls:=.ref C,dict:=od,data:=.fields vs }):Looks M h (typeOf (.ref x)) (.ref C):=(Looks.ld hx).andThen .now
theorem GO{f:Zf}{Q:Zc}(X:K.In s.heap)(c:kE K C)(hx:s.heap.get? x=some { cls:=.ref C,dict:=od,data:=.fields vs })(T:f.length<=ao)(u:0<vs.size)
  (h:∀l,(∀b o,b≠x->s.heap.get? b=some o->l.get? b=some o)->l.get? x=some { cls:=.ref C,dict:=od,data:=.fields (vs.setIfInBounds 0 (.ref s.heap.objs.size)) }->Q .none { s with heap:=l }) :
  wpAny (model prog w) A (call (.builtin "ValueError.__init__") (.ref x::f)) Q E s:=by
 obtain⟨U,q,N,bs,B,Y,sub,ab,D,dd,k0,k1,k2,k3,k5,e,H⟩:=c.obj;have G:=PySem.F.excBase_ValueError;have m:=X _ _ e;have I:(Value.ref C::B).contains (.type "ValueError")=true:=by rw[jt,H.has (b:=true) (by decide +kernel)];rfl
 have c2:=G.noStar;obtain⟨i,g,d,t,os⟩:=s;dsimp only at hx m;refine mY (codeAny_call_builtin G.init.plain G.initEntry ?_);have J:∀(p:Unit->Shared->Prop),p () ⟨i,g,d,t,os⟩->wpAny (model prog w) A.in1 (wE "ValueError.__init__" ⟨.ref x::f,[]⟩) p (fun e z=>match (Except.error e:Result)with | .ok (.ret v)=>Q v z | .ok _=>False | .error e=>E e z) ⟨i,g,d,t,os⟩:=fun p L=>by
  simp only[wE,G.initKind,G.initSplit,G.initRow]
  repeat (first|with_reducible refine jZ hx ?_|with_reducible refine jZ m ?_|(with_reducible refine sU m ?_;rw[I])|wp_step)
  refine sY ?_;rw[show ∀(a b:String) (n:Nat),Bind.check ⟨.positional,"*","ValueError",.self,[⟨"args",.varPos,false⟩]⟩ a b n (List.map (fun y=>y.fst) ({ pos:=Value.ref x::f }:Args).kw)=pure ()from fun a b n=>check_star_args _ _ _ _ _ _];exact be L
 refine J _ ?_;unfold cT.«BaseException.__init__»;have j:(i.push { cls:=.type "tuple",data:=.seq f.toArray }).get? x=some { cls:=.ref C,dict:=od,data:=.fields vs }:=bh _ hx;obtain⟨r,M⟩:∃r,vs[0]?=some r:=⟨vs[0],by simp[u]⟩
 wp_walk
 rw[M];have k:Q .none ⟨(i.push { cls:=.type "tuple",data:=.seq f.toArray }).update x (c9 (·.setIfInBounds 0 (.ref i.objs.size))),g,d,t,os⟩:=by
  refine h _ (fun b o O e=>?_) ?_
  ·rw[fG _ _ (cZ O)];exact bh _ e
  ·rw[hW _ j rfl];rfl
 refine be (ar (ju j rfl u ?_));cases r<;>first|exact wJ (be k)|exact be (be k)
theorem Ez{h:Heap}{e:Addr}{a:Obj}(hx:h.get? x=some { cls:=.ref C,dict:=some e,data:=.fields vs })(f:h.get? e=some a):InstAt h x { cls:=.ref C,dict:=some e,data:=.fields vs } C (some a):=⟨hx,rfl,rfl,f⟩
theorem GL{h:Heap}(hx:h.get? x=some { cls:=.ref C,dict:=none,data:=.fields vs }):InstAt h x { cls:=.ref C,dict:=none,data:=.fields vs } C none:=⟨hx,rfl,rfl,eU⟩
theorem Kg{R:Result->Shared->Prop}{o:Obj}{od:Option Obj}{tk:Tok}(X:K.In s.heap)(c:kE K C)(I:InstAt s.heap x o C od)(p:takerIn K C name=some none)
  (h:∀b,wpAny (model prog w) A.in1 (cT.ObjectAttr.storeInOwnDict (.ref x) (.ref C) (.str name tk) name v b) (fun k j=>match k with | .done f=>R (.ok f) j | .again l=>l.quiet=true/\zzl88 (model prog w) A l R j) (fun e j=>R (.error e) j) s) :
  zzl88 (model prog w) A (.call (.builtin "object.__setattr__") ⟨[.ref x,.str name tk,v],[]⟩) R s:=by
 have i:=PySem.F.store_object;obtain⟨cd,m,n,_⟩:=c.cd;have sub:Looks (model prog w) s.heap (y8 (.ref x) (.type "object")) true:=I.type.andThen (HV X m n (by decide +kernel));refine codeAny_call_builtin i.slot.plain i.entry (@check_slot (model prog w) _ _ s "object.__setattr__" "object" "__setattr__" (.ref x) [.str name tk,v] [] _ i.kind i.split sub (i.args (.ref x) (.str name tk) v) ?_);obtain⟨g,q,r⟩:=Option.bind_eq_some_iff.mp p;have t:Looks (model prog w) s.heap (mroOf (.ref C)) cd.mro:=(looks_clsIn X m).andThen .now;have u:Looks (model prog w) s.heap (cT.ObjectAttr.storeTaker? g) none:=by
  cases g with
  |none=>exact .now
  |some a =>
   obtain⟨b,y,e⟩:=pG.mp r;refine(looks_takesIn X y).andThen ?_;cases b with
   |true=>cases e
   |false=>exact .now
 rw[osa_eq,refuse_eq];refine ar (ar (I.type.here (ar (t.here ?_))));rw[zw _ n];refine be (ar (I.type.here (ar ((looks_findIn X q).here (ar (u.here ?_))))));exact h _
theorem Dd{Q:Unit->Shared->Prop}(X:K.In s.heap)(c:kE K C)(hx:s.heap.get? x=some { cls:=.ref C,dict:=none,data:=.fields vs })(p:takerIn K C name=some none)
  (h:∀f tk,(∀b o,b≠x->s.heap.get? b=some o->f.get? b=some o)->f.get? x=some { cls:=.ref C,dict:=some s.heap.objs.size,data:=.fields vs } ->
   f.Ns1 s.heap.objs.size (fun y=>if y=name then some v else none)->Q () { s with heap:=f,toks:=tk }) :
  wpAny (model prog w) A (setAttr (.ref x) name v) Q E s:=by
 obtain⟨cd,q,_,r⟩:=c.cd;have I:=GL hx;refine set_plain X I c.sa (Kg (s:={ s with toks:=s.toks+1 }) X c I p fun b=>?_);obtain⟨a,g,d,t,os⟩:=s;dsimp only at hx I X;have i:(a.push { cls:=.type "dict",data:=.dict #[] }).get? x=some { cls:=.ref C,dict:=none,data:=.fields vs }:=bh _ hx;have xs:x≠a.objs.size:=cw (aQ hx);refine ar (be (ar (ar (wpAny_loadPart hx (ar ((looks_clsIn X q).here ?_))))));rw[r];refine ar (wpAny_alloc' (ar (wpAny_update' i ?_)));refine be ?_;have u:((a.push { cls:=.type "dict",data:=.dict #[] }).update x fun o=>{ o with dict:=some a.objs.size }).get? a.objs.size=some { cls:=.type "dict",data:=.dict #[] } :=
  (fG _ _ xs).trans (Heap.get?_push_at rfl rfl)
 have z:((a.push { cls:=.type "dict",data:=.dict #[] }).update x fun o=>{ o with dict:=some a.objs.size }).Ns a.objs.size (fun _=>none):=⟨_,#[],_,u,rfl,fun e B=>absurd B (by simp),fun _=>rfl⟩;show wpAny _ _ (wD a.objs.size (.str name _) name v) _ _ _;unfold wD cT.ObjectAttr.newKeyGuard;refine ar (be (ar (wpAny_nsSet1 (Heap.Ns1.of_empty z) fun f j n=>?_)));obtain⟨J,D,G,k,l,m⟩:=j.count (Within.cons name v Within.nil);refine ar (wpAny_lookBehind k (by rw[l];exact pastItsLine_dict (aP m (by rw[bP,pH,vy];omega))) ?_);refine be (h f _ (fun b o H e=>?_) ?_ j)
 ·exact(n.2 b (cw (aQ e))).trans ((fG _ _ (cZ H)).trans (bh _ e))
 ·exact(n.2 x xs).trans (hW _ i rfl)
theorem Db{Q:Unit->Shared->Prop}{f:Addr}{k:Str->Option Value}{q:Zb}(X:K.In s.heap)(c:kE K C)(hx:s.heap.get? x=some { cls:=.ref C,dict:=some f,data:=.fields vs })(l:s.heap.Ns1 f k)
  (r:Within k q) (N:q.length<ao) (u:takerIn K C name=some none)
  (h:∀i tk,(∀b o,b≠f->s.heap.get? b=some o->i.get? b=some o)->i.Ns1 f (fun y=>if y=name then some v else k y)->Q () { s with heap:=i,toks:=tk }) :
  wpAny (model prog w) A (setAttr (.ref x) name v) Q E s:=by
 obtain⟨cd,z,_,B⟩:=c.cd;obtain⟨D,G,_⟩:=qo l;have I:=Ez hx G;refine set_plain X I c.sa (Kg (s:={ s with toks:=s.toks+1 }) X c I u fun b=>?_);obtain⟨O,g,d,t,os⟩:=s;dsimp only at hx I X l;refine ar (be (ar (ar (wpAny_loadPart hx (ar ((looks_clsIn X z).here ?_))))));rw[B];refine be (a:=some f) ?_;show wpAny _ _ (wD f (.str name _) name v) _ _ _;unfold wD cT.ObjectAttr.newKeyGuard;refine ar (be (ar (wpAny_nsSet1 l fun i j H=>?_)));obtain⟨T,J,L,m,n,p⟩:=j.count (Within.cons name v r);refine ar (wpAny_lookBehind m (by rw[n];exact pastItsLine_dict (aP p (by rw[bP];omega))) ?_);exact be (h i _ (fun b o M e=>(H.2 b M).trans e) j)
theorem xget{Q:Zc}{j:Addr}{k:Str->Option Value}{a:Bool}(X:K.In s.heap)(c:kE K C)(hx:s.heap.get? x=some { cls:=.ref C,dict:=some j,data:=.fields vs })(n:s.heap.Ns1 j k)
  (o:findIn K (.ref C) name=some none) (p:k name=some v) (q:handedIn v=true) (h:Q v { s with toks:=s.toks+1 }):wpAny (model prog w) A (yY (.ref x) name a) Q E s:=by
 obtain⟨cd,l,e,r⟩:=c.cd;obtain⟨f,u,y⟩:=qo n;have I:=Ez hx u;have G:=PySem.F.attrBase_ValueError;obtain⟨m,g,d,t,os⟩:=s;dsimp only at hx I X;have i:=I.type (M:=model prog w);have z:=looks_findIn (M:=model prog w) X c.ga;have L2:=looks_findIn (M:=model prog w) X c.gx;have hf:findObj K C (some f) name=some (.value v):=findObj_own (by unfold hasDictIn;rw[l];exact r) o rfl (by rw[y,p]);have B:=looks_find (M:=model prog w) X I hf;have sub:Looks (model prog w) m (y8 (.ref x) (.type "BaseException")) true:=i.andThen (HV X l e (by decide +kernel));unfold yY getAttrBy;refine ar (wpAny_mkText (kW (ar (i.at (ar (z.at ?_))))));have ne:(onTheHeap (Value.ref C) && Ap "BaseException.__getattribute__"==Ap "object.__getattribute__")=false:=by
  rw[show(Ap "BaseException.__getattribute__"==Ap "object.__getattribute__")=false from by decide +kernel,wH]
 dsimp only;rw[ne,if_neg (by decide)];have D:Looks (model prog w) m (hookBefore (.ref C)) none:=L2;refine ar (D.at (ar (wpAny_attempt (kW ?_))));unfold callGetattribute;rw[show(a && onTheHeap (Ap "BaseException.__getattribute__"))=false from wH _,if_neg (by decide)];unfold boundAndCalled;rw[G.ga.bind];refine ar (be ?_);show wpAny _ _ (call (.builtin "BaseException.__getattribute__") [.ref x,.str name _]) _ _ _;refine mY (codeAny_call_builtin G.ga.plain PySem.F.entry_bexc_ga ?_);refine @check_slot (model prog w) _ _ _ "BaseException.__getattribute__" "BaseException" "__getattribute__" (.ref x) [.str name _] [] _ (by decide +kernel) (by decide +kernel) sub (PySem.F.args_bexc_ga _ _) ?_;unfold cT.«object.__getattribute__»;refine ar (be (ar (be (ar (i.at (ar (B.at ?_)))))));refine be ?_;show wpAny _ _ (handedOut v) _ _ _;rw[handedOut_of q];exact be h
end
theorem upd_id{H:Hp}{a:Addr}{o:HO}(e:H a=some o):upd H a o=H:=by
 funext b;unfold upd;split
 ·rename_i q;rw[q,e]
 ·rfl
def iU(d:Addr)(fs:List (Str×V)):Heap->Prop:=fun h=>∃mA,h.Ns1 d mA/\∀f,iV (fs.lookup f) (mA f)
theorem y9{P:bF}{w:World}{K:Za}{H:Hp}{h:Heap}{d:Addr}{fs:List (Str×V)}{a:Str->Option Value}(n:h.Ns1 d a)(r:∀f,iV (fs.lookup f) (a f)):cN P w K H h d (.ext (iU d fs)):=by
 refine⟨⟨a,n,r⟩,?_,fun j l ⟨m,⟨o,g,i,e,q⟩,z⟩ k=>⟨m,⟨o,g,i,k _ e,q⟩,z⟩⟩;obtain⟨o,g,i,e,_⟩:=n;exact⟨o,e⟩
structure II(K:Za)(T:Addr):Prop where
 rd:PySem.W.readsIn K T (.type "type")=true
 fi:PySem.W.findCls K (.ref T) (.type "type") "__init__"=some (.val (.builtin "ValueError.__init__"))
 ga:BV K (.ref T) "__getattribute__"=some (some (.builtin "type.__getattribute__"))
section
variable{X:Cx}{J6:Zd}{σ:St}{H:Hp}{s:Shared}{a C:Addr}{od:Option Addr}
theorem Inv.exc(I:Inv X J6 σ H s)(e:H a=some (.ext (ib a C od))):∃f,s.heap.get? a=some { cls:=.ref C,dict:=od,data:=.fields f }/\1<f.size:=(I.hok a _ e).1
theorem Inv.excN(I:Inv X J6 σ H s)(e:H a=some (.ext (cX a C od))):∃f,s.heap.get? a=some { cls:=.ref C,dict:=od,data:=.fields f }/\f[1]?=some .none:=(I.hok a _ e).1
def AT(K:Za)(t:TA):TE:=fun σ H Q=>t σ H fun vs H1=>∃a C od us,vs=.ref a::us/\H1 a=some (.ext (cX a C od))/\kE K C/\us.length<=ao/\Q .non H1
theorem zK{T:Addr}{x:Str}{p l i:Pos}{e:Expr}{j:List Expr}{t:TA}{pl:Sem Bool}(B:II X.K T)(J:Gl X x)(L:X.mg x=some (.ref T))(M:PA X (e::j) t)(m:(x==("__debug__":Str))=false:=by decide)
  (n:aB (e::j) X.env=(false,eval e X.env)::aB j X.env:=by rfl) (v:(backTo i (aB j X.env)).any (·.1)=false:=by rfl)
  (N:eval (.Call (.Attribute (.Name x p) "__init__" l) (e::j) [] i) X.env=(do
   let E <- eval (.Name x p) X.env
   vB l.atName
   let(f,first) <- nS [E] (vx E "__init__" pl)
   wY i f first (backTo i (aB (e::j) X.env)) (mW i (mV [] X.env))):=by rfl) :
  PE X (.Call (.Attribute (.Name x p) "__init__" l) (e::j) [] i) (AT X.K t):=by
 intro J6 s σ H Q I h;refine PySem.W.methodCall_KW (pl:=pl) (ik I J L ?_ m) N;refine PySem.W.method_cls I.kIn B.ga (PySem.W.cls_value I.kIn B.rd B.fi rfl ?_);refine callWith_builtin1 (cA (M i J6 _ σ H _ (I.tok _) h) fun us O w=>?_) n v;obtain⟨vs,U,y,r,a,C,od,Y,ev,D,c,hz,q⟩:=w;subst ev;cases r with
 |cons ra rr =>
  obtain rfl:=(show _=Value.ref a from ra);obtain⟨ws,ew,k⟩:=y.excN D;have h0:0<ws.size:=ft Nat.zero_lt_one (c6 (e_.mp k).1);refine GO y.kIn c ew (by rw[<-rr.length];exact hz) h0 fun h' kp G=>⟨.non,U,?_,rfl,q⟩;have z:=y.write (x:=a) (e:=a) (o:=.ext (cX a C od)) (h':=h') (t':=O.toks) (by rw[D];exact eU) (.inl rfl) (fun b u nb g=>kp b u nb g) ⟨_,G⟩ (qz G (by rw[Array.getElem?_setIfInBounds_ne (by decide)];exact k));rw[upd_id D]at z;exact z
def Cr(K:Za)(ta tv:TE)(f:Str):TS:=fun D σ H=>tv σ H fun y H1=>ta σ H1 fun x H2=>∃a C,x=.ref a/\kE K C/\db K C f /\
  ((H2 a=some (.ext (cX a C none))/\∀d,H2 d=none->d≠a->D.nx σ (upd (upd H2 d (.ext (iU d [(f,y)]))) a (.ext (cX a C (some d))))) ∨
   (∃d fs,H2 a=some (.ext (cX a C (some d)))/\H2 d=some (.ext (iU d fs))/\fs.length<1000/\D.nx σ (upd H2 d (.ext (iU d (c_ f y fs))))))
theorem xN{o value:Expr}{f:Str}{L B:Pos}{Y tv:TE}(ha:PE X o Y)(hv:PE X value tv)(hs:mz value (some (.Attribute o f B)) L.line X.env=pure false):PS X (.Assign [.Attribute o f B] value L) (Cr X.K Y tv f):=by
 intro J6 s σ H D I h;refine plainObj_wpAny_Assign_Attribute (cA (hv J6 s σ H _ I h) fun u s1 ⟨y,H1,I1,ry,q⟩=>cA (ha J6 s1 σ H1 _ I1 q) fun ov j Q=>?_) hs;obtain⟨x,m,p,rx,a,C,ex,c,n,M⟩:=Q;subst ex;obtain rfl:ov=Value.ref a:=rx;rcases M with⟨e,M⟩|⟨d,fs,e,ed,hl,M⟩
 ·obtain⟨vs,g,g1⟩:=p.excN e;refine Dd p.kIn c g n.taker fun h' tk kp gx O=>?_;have nd:j.heap.objs.size≠a:=eV (aQ g);have hn:m j.heap.objs.size=none:=p.hok.fresh (aG _);have other:∀b u,m b=some u->(∀φ,u≠.ext φ)->b≠a:=fun b u z nz i=>nz _ (by rw[i,e]at z;exact(d4 z).symm);have E:∀b,b≠a->b≠j.heap.objs.size->upd (upd m j.heap.objs.size (.ext (iU j.heap.objs.size [(f,y)]))) a (.ext (cX a C (some j.heap.objs.size))) b=m b:=fun b h1 h2=>by rw[am h1,am h2]
  have N:∀b u,m b=some u->b≠j.heap.objs.size:=fun b u z i=>by rw[i,hn]at z;cases z
  have un:Un X.fs [] m (upd (upd m j.heap.objs.size (.ext (iU j.heap.objs.size [(f,y)]))) a (.ext (cX a C (some j.heap.objs.size)))) j.heap h':=by
   have T:∀b,m b=none->b≠a:=fun b z i=>by rw[i,e]at z;cases z
   refine⟨fun b o z J _ _=>kp b o (T b J) z,fun b o z J _ _=>⟨o.slots,kp b o (T b J) z⟩,fun b o z J _=>by rw[E b (T b J) (cw (aQ z))];exact J,fun b o z _=>?_,
    fun b xs z=>by rw[E b (other b _ z (by intro φ i;cases i)) (N b _ z)];exact z,fun b ob u z=>by rw[E b (other b _ z (by intro φ i;cases i)) (N b _ z)];exact z,
    fun b ps z=>⟨#[],by rw[E b (other b _ z (by intro φ i;cases i)) (N b _ z),z];simp⟩⟩
   by_cases G:b=a
   ·rw[G];exact⟨_,gx⟩
   ·exact⟨o,kp b o G z⟩
  have ok:kO X.prog X.w X.K (upd (upd m j.heap.objs.size (.ext (iU j.heap.objs.size [(f,y)]))) a (.ext (cX a C (some j.heap.objs.size)))) h':=fun b u z=>by
   by_cases G:b=a
   ·subst G;rw[aa]at z;cases z;exact qz gx g1
   ·by_cases hd:b=j.heap.objs.size
    ·subst hd;rw[am G,aa]at z;cases z;refine y9 O fun k=>?_;show iV (jd k [(f,y)]) _;by_cases q:k=f
     ·rw[q,if_pos rfl];simp[jd];exact ry
     ·rw[if_neg q];have:(k==f)=false:=beq_eq_false_iff_ne.mpr q;simp only[jd,this];exact eU
    ·rw[E b G hd]at z;refine(p.hok b u z).stay (fun l v hc t=>kp l v ?_ t) (fun l t=>by rw[E l (other l _ t (by intro φ i;cases i)) (N l _ t)];exact t) fun l xs t=>by rw[E l (other l _ t (by intro φ i;cases i)) (N l _ t)];exact t
     rcases hc with rfl|hc
     ·exact G
     ·exact other l _ hc (by intro φ i;cases i)
  exact⟨σ,_,p.un (t':=tk) un ok,M _ hn nd⟩
 ·obtain⟨vs,g,g1⟩:=p.excN e;obtain⟨mA,nA,rA⟩:=(p.hok d _ ed).1;have wi:y6 mA (fs.map (·.1)):=fun k hg=>by
   have r:=rA k;cases q:fs.lookup k with
   |none=>rw[q]at r;exact absurd (iV.none_of r) hg
   |some y'=>exact aR.mpr ⟨(k,y'),pM q,rfl⟩
  refine Db p.kIn c g nA wi (by rw[aq,vy];omega) n.taker fun h' tk kp O=>?_;have U:∃o,h'.get? d=some o:=let⟨o,_,_,e',_⟩:=O;⟨o,e'⟩;refine⟨σ,_,p.write (x:=d) (e:=d) (h':=h') (t':=tk) (by rw[ed];exact eU) (.inl rfl) (fun b u nb z=>kp b u nb z) U (y9 O fun k=>?_),M⟩;rw[eO];by_cases q:k=f
  ·rw[if_pos q,if_pos q];exact ry
  ·rw[if_neg q,if_neg q];exact rA k
def Ci(K:Za)(ta:TE)(f:Str):TE:=fun σ H Q=>ta σ H fun x H1=>∃a C d fs v,x=.ref a/\H1 a=some (.ext (ib a C (some d)))/\H1 d=some (.ext (iU d fs))/\kE K C/\db K C f/\fs.lookup f=some v/\Q v H1
theorem xP{e:Expr}{f:Str}{j:Pos}{m:TE}(r:PE X e m)(t:sO e f X.env (eval e X.env)=eval e X.env):PE X (.Attribute e f j) (Ci X.K m f):=by
 intro J6 s σ H Q I h;refine C4 t (cA (r J6 s σ H _ I h) fun u L k=>?_);obtain⟨x,w,i,y,a,C,d,fs,v,ex,z,B,c,n,l,q⟩:=k;subst ex;obtain rfl:u=Value.ref a:=y;obtain⟨M,g,_⟩:=i.exc z;obtain⟨D,E,G⟩:=(i.hok d _ B).1;obtain⟨N,J,p⟩:=iV.some_of (v:=v) (o:=D f) (by rw[<-l];exact G f);exact xget i.kIn c g E n J (v_ p) ⟨v,w,i.tok _,p,q⟩
end
section
variable{M:Model}{A:Around}{E:Zc}{s:Shared}{env:Env}{nm q:Str}{C N a:Addr}{bs bm:Zf}{hdct:Bool}{sn:Zb}{sub:Zf}{ab:Bool}{col:Option Bool}{dd od:Option Addr}{k0 k1 k2 k3 k5:Option Value}{newId:String}{vs:Array Value}
theorem B_{x:Sem Value}{Q:Flow->Shared->Prop}(j:fj bm)(k:A.handled=none)
  (h:wpAny M A x (fun v e=>∃a od vs,v=.ref a/\e.heap.get? C=some (g_ nm q C N bs bm hdct sn sub ab col dd k0 k1 k2 k3 k5 newId)/\e.heap.get? a=some { cls:=.ref C,dict:=od,data:=.fields vs }/\vs[1]?=some .none/\E (.ref a) e) E s) :
  wpAny M A (raiseStmt env (some x) none) Q E s:=by
 have l:(Value.ref C::bm).contains (.type "BaseException")=true:=by rw[jt,j.has (b:=true) (by decide +kernel)];rfl
 unfold raiseStmt;refine ar (dF h (fun v e m=>?_) fun _ _ y=>y);obtain⟨a,od,vs,rfl,f,i,n,o⟩:=m;obtain⟨p,g,d,tk,os⟩:=e
 repeat (first|with_reducible refine cx i rfl n ?_|with_reducible refine jZ i ?_|with_reducible refine jZ f ?_|(with_reducible refine sU f ?_;rw[l])|wp_step)
 exact wpAny_raiseNew_none k o
end
section
variable{X:Cx}{J6:Zd}{σ:St}{H:Hp}{s:Shared}{C f:Addr}{k:Nat}{fd:fe}{ps:Zb}{sp:Sp}
theorem vQ{i:Zf}{n:List V}{J:Hp->Prop}(c:kE X.K C)(hi:cc X.K (.ref C) "__init__"=some (some (.ref f)))(hf:nQ X.K (.ref f)=true)
  (F:iX X.prog X.w X.K X.mg X.base CX0 k f fd ps sp) (Q:dQ (k+1) X.A) (T:Binds X.K fd ps []) (I:Inv X J6 σ H s) (r:bg n i) (U:i.length<=ao)
  (h:sp (.ref (s.heap.objs.size+1)::n) (upd H (s.heap.objs.size+1) (.ext (cX (s.heap.objs.size+1) C none))) (fun v m=>v=.non/\J m) E0) {E:Zc} :
  wpAny (model X.prog X.w) X.A (call (.ref C) i) (fun u L=>u=.ref (s.heap.objs.size+1)/\∃m,Inv X J6 σ m L/\J m) E s:=by
 obtain⟨nm,q,N,bs,bm,sn,sub,ab,Y,dd,k0,k1,k2,k3,k5,e,hv⟩:=c.obj;have p:=I.kIn;obtain⟨x,y,B⟩:∃x,X.K.lookup f=some x/\x.cls=.type "function":=by
  obtain⟨o,ho,e⟩:=pG.mp (beq_iff_eq.mp hf);exact⟨o,ho,e⟩
 obtain⟨j,g,d,t,os⟩:=s;refine IQ (q:=q) (h:=j) hv (p _ _ e) (PySem.W.looks_findIn p hi) (p _ _ y) B U fun h' kp z gx=>?_;dsimp only at h I;have D:=I.laid (a:=j.objs.size+1) (o:=.ext (cX (j.objs.size+1) C none)) (h':=h') (t':=t) kp (hV _) (qz gx rfl);have M:bg (V.ref (j.objs.size+1)::n) (Value.ref (j.objs.size+1)::i):=.cons rfl r;have hl:((Value.ref (j.objs.size+1)::i)++[]).length=ps.length:=by rw[dA,<-M.length];exact F.len _ _ _ _ h
 have O:=T _ (Value.ref (j.objs.size+1)::i) D.kIn hl;rw[dA]at O;refine mY (pN (F.run _ X.stack _ _ ⟨Value.ref (j.objs.size+1)::i,[]⟩ (Value.ref (j.objs.size+1)::i) _ _ E0 (Q.make C i []) (D.env0.make C i []) O M h) fun G L l=>?_);cases G with
 |error e=>exact l.elim
 |ok fl =>
  cases fl with
  |ret u =>
   obtain⟨v,H',I3,rv,ev,q3⟩:=D.after l;subst ev;exact⟨rv,rfl,H',I3,q3⟩
  |next=>exact df l
  |brk=>exact df l
  |cont=>exact df l
def AI(C:Addr)(sp:Sp)(E:XK)(t:TA):TS:=fun _ σ H=>t σ H fun vs H1=>vs.length<=ao/\∀a,H1 a=none ->
 sp (.ref a::vs) (upd H1 a (.ext (cX a C none))) (fun v H2=>v=.non/\∃od,H2 a=some (.ext (cX a C od))/\E (.ref C) (some a) (upd H2 a (.ext (ib a C od)))) E0
theorem Fs{E:XK}{x:Str}{np G J:Pos}{e:Expr}{m:List Expr}{t:TA}(l:Lv X E)(c:kE X.K C)(hi:cc X.K (.ref C) "__init__"=some (some (.ref f)))(hf:nQ X.K (.ref f)=true)(kp:eF X.K (.ref C)=true)
  (F:iX X.prog X.w X.K X.mg X.base CX0 k f fd ps sp) (hr:dQ (k+1) X.A) (hb:Binds X.K fd ps []) (hc:X.calm=true) (hg:Gl X x) (hm:X.mg x=some (.ref C)) (ha:PA X (e::m) t) (L:(x==("__debug__":Str))=false:=by decide)
  (he:aB (e::m) X.env=(false,eval e X.env)::aB m X.env:=by rfl) (M:(backTo G (aB m X.env)).any (·.1)=false:=by rfl) :
  PS X (.Raise (some (.Call (.Name x np) (e::m) [] G)) none J) (AI C sp E t):=by
 intro J6 s σ H D I h;obtain⟨nm,q,N,bs,bm,sn,sub,ab,col,dd,k0,k1,k2,k3,k5,eC,hv⟩:=c.obj;rw[arm_exec_Raise];simp only[evalOpt,Option.map];refine ar (q_ (B_ (C:=C) (nm:=nm) (q:=q) (N:=N) (bs:=bs) (bm:=bm) (hdct:=true) (sn:=sn) (sub:=sub) (ab:=ab) (col:=col) (dd:=dd) (k0:=k0) (k1:=k1) (k2:=k2) (k3:=k3) (k5:=k5) (newId:="ValueError.__new__") hv (I.ok.hd hc) ?_));refine ar (dF (Q:=fun v i=>∃a n O,v=.ref a/\i.heap.get? C=some (g_ nm q C N bs bm true sn sub ab col dd k0 k1 k2 k3 k5 "ValueError.__new__")/\i.heap.get? a=some { cls:=.ref C,dict:=n,data:=.fields O }/\O[1]?=some .none/\X.xe (.ref a) i) ?_ (fun v s3 h3=>ar (q_ (be h3))) fun _ _ y=>y);refine lg (ik I hg hm ?_ L);refine tz (h₀:=X.base) I.ok.mod.kin kp (cA (ha G J6 s σ H _ I h) fun us i ⟨O,H1,p,r,hz,q1⟩=>⟨p.kIn,?_⟩) he M;refine cA (vQ c hi hf F hr hb p r (by rw[<-r.length];exact hz) (q1 (i.heap.objs.size+1) (p.hok.fresh (hV _)))) fun u T U=>?_;obtain⟨eu,H2,Y,n,e2,q2⟩:=U;obtain⟨ws,B,j⟩:=Y.excN e2;refine⟨i.heap.objs.size+1,n,ws,eu,Y.kIn _ _ eC,B,j,?_⟩;have w1:1<ws.size:=(e_.mp j).1;have I3:=Y.write (x:=i.heap.objs.size+1) (e:=i.heap.objs.size+1) (o:=.ext (ib (i.heap.objs.size+1) C n)) (h':=T.heap) (t':=T.toks) (by rw[e2];exact eU) (.inl rfl) (fun b u _ g=>g) ⟨_,B⟩ (qy B w1);exact l J6 σ _ T i.heap.objs.size _ C n I3 p.young ⟨aa,hV _,ws,none,B,w1,.inl ⟨j,rfl⟩,fun t z=>by cases z⟩ q2
end
abbrev Cx.hnd(X:Cx)(v:Value):Cx:={ X with A:=X.A.mark (some v),calm:=false,xe:=fun _ _=>False }
section
variable{X:Cx}{J6:Zd}{σ:St}{H:Hp}{s:Shared}{n:Nat}{a C:Addr}{od:Option Addr}{v:Value}
theorem Inv.hnd(I:Inv X J6 σ H s)(v:Value):Inv (X.hnd v) J6 σ H s :=
 ⟨⟨I.ok.mod,I.ok.kind,I.ok.glob,I.ok.blt,I.ok.above,I.ok.inj,I.ok.has,I.ok.cab,(fun z=>nomatch z),I.ok.frames,I.ok.stk,I.ok.exf,I.ok.bs,I.ok.bsz,I.ok.noex,I.ok.exfs,I.ok.funs,I.ok.frf⟩,I.os,I.bare,I.base,I.loc,I.cell,I.free,I.freeC,I.pin,I.hok,I.len⟩
theorem Inv.unhnd(e:Inv (X.hnd v) J6 σ H s)(ok:X.Ok):Inv X J6 σ H s:=⟨ok,e.os,e.bare,e.base,e.loc,e.cell,e.free,e.freeC,e.pin,e.hok,e.len⟩
theorem GJ{M:Model}{A:Around}{Q:Unit->Shared->Prop}{E:Zc}(I:Inv X J6 σ H s)(y:kM X J6 n)(l:ii n s.heap H a C od)(h:∀r,Inv X J6 σ H r->ii n r.heap H a C od->Q () r):
  wpAny M A (j3 (.ref a) none) Q E s:=by
 obtain⟨G,T,e,z,J,w⟩:=l.tr;unfold j3;rcases J with⟨m,rfl⟩|⟨t,O,U,rfl,m,j,k,B,i,D⟩
 ·refine ar (cx e rfl m ?_);rw[if_neg (by decide)];exact be (h s I l)
 ·refine ar (cx e rfl m ?_);rw[if_pos (show(Value.ref t != Value.none)=true from by simp)];refine ju B i (e_.mp D).1 ?_;have kp:∀b o,b≠t->s.heap.get? b=some o->(s.heap.update t (c9 (·.setIfInBounds 3 ((none:Option Addr).elim Value.none fun f=>rawInt f)))).get? b=some o:=fun b o L g=>by
   rw[fG _ _ (cZ L)];exact g
  have u:=(e_.mp D).1;refine h _ (I.turned (t':=s.toks) (it:=t) kp (w t rfl) (fun q=>absurd j (fP (q▸y.loc))) (.inr (aP y.s0 j)) (fun x c g q=>absurd j (fP (q▸y.cell x c g))) (fun p N q=>absurd j (fP (q▸y.pin p N))))
   ⟨l.trk,l.new,G,some t,kp a _ (cZ k) e,z,.inr ⟨t,_,_,rfl,m,j,k,hW _ B (kU (hJ i _)),hJ i _,by simp[u]⟩,w⟩
theorem sK{M:Model}{A:Around}{E:Zc}{i:Nat}{x:Str}{t:Pos}{Q:Unit->Shared->Prop}(I:Inv X J6 σ H s)(O:X.N.Nodup)(hi:X.N[i]?=some x)(hx:X.env.scope.names.lookup x=some .local)
  (h:∀G,Inv X J6 (σ.set i none) H G->Q () G):wpAny M A (do bindName X.env x .none;unbindBehindTheSuite X.env x t) Q E s:=by
 obtain⟨m,J,T⟩:=id I.loc;have l:(X.env.scope.kind==.class || (X.env.scope.kind==.module && X.env.locals != X.env.globals))=false:=by rw[I.ok.kind];rfl
 have hiσ:i<σ.length:=by rw[I.len];exact(dg.mp hi).1
 have cne:=I.cne;refine wpAny_nameGoes_keeps hx J l fun U v u f=>?_;obtain⟨oL,_,_,Y,_⟩:=id J;have tracked:kO X.prog X.w X.K H U:=fun b ob e=>by
  refine(I.hok b ob e).stay (fun c L hc q=>(f.2 c ?_).trans q) (fun _ q=>q) fun _ _ q=>q;rintro rfl;rcases hc with rfl|hc
  ·rw[I.free]at e;cases e
  ·rw[I.free]at hc;cases hc
 refine h _ ⟨I.ok,I.os,I.bare,⟨fun b o e n B hx=>?_,fun b o e n B hx=>?_,I.base.free,fun b o e hx=>?_,I.base.tups,I.base.frzs,I.base.tbls⟩,⟨_,u,fun j y v' g r e3=>?_⟩,fun y c e=>?_,I.free,I.freeC,fun p hp=>?_,tracked,by simpa using I.len⟩
 ·exact(f.2 b (cw (ft (aQ e) I.ok.above))).trans (I.base.keep b o e n B hx)
 ·obtain⟨sl,g⟩:=I.base.slot b o e n B hx;exact⟨sl,(f.2 b (cw (ft (aQ e) I.ok.above))).trans g⟩
 ·obtain⟨o',g⟩:=I.base.there b o e hx;exact⟨o',(f.2 b (cw (ft (aQ e) I.ok.above))).trans g⟩
 ·by_cases D:j=i
  ·subst D;rw[B5 hiσ]at r;cases r
  ·rw[y4 (cZ D)]at r;obtain⟨u',r',q⟩:=T j y v' g r e3;refine⟨u',r',?_⟩;rcases q with⟨k,e⟩|⟨k,c,e,z⟩
   ·refine .inl ⟨k,?_⟩;have:y≠x:=fun e=>D (ug O g (e▸hi));simp[this,e]
   ·exact .inr ⟨k,c,e,z.sameBut f (cne y c e)⟩
 ·obtain⟨L,z⟩:=I.cell y c e;exact⟨L,z.sameBut f (cne y c e)⟩
 ·obtain⟨e,n,ne,nf,d⟩:=I.pin p hp;exact⟨(f.2 p.1 ne).trans e,n,ne,nf,d⟩
def XE(X:Cx)(J6:Zd)(σ:St)(W:XK)(e:Value)(s':Shared):Prop:=∃n a C od H',e=.ref a/\kM X J6 n/\Inv X J6 σ H' s'/\ii n s'.heap H' a C od/\W (.ref C) (some a) H'
def XS(X:Cx)(J6:Zd)(W:St->XK)(e:Value)(s':Shared):Prop:=∃n a C od σ' H',e=.ref a/\kM X J6 n/\Inv X J6 σ' H' s'/\ii n s'.heap H' a C od/\W σ' (.ref C) (some a) H'
def JS(X:Cx)(e:Expr)(t:XK->TE):Prop:=∀(J6:Zd) (s:Shared) (σ:St) (H:Hp) (Q:VK) (W:XK),Inv X J6 σ H s->t W σ H Q->wpAny (model X.prog X.w) X.A (eval e X.env) (EP X J6 σ Q) (XE X J6 σ W) s
def PH(X:Cx)(hs:List wC)(t:iw->St->XK):Prop:=∀(J6:Zd) (n:Nat) (s:Shared) (σ:St) (H:Hp) (D:iw) (a C:Addr) (od:Option Addr),Inv X J6 σ H s->kM X J6 n->ii n s.heap H a C od->t D σ (.ref C) (some a) H ->
 wpAny (model X.prog X.w) X.A (handleBy (.ref a) X.env hs) (SP X J6 D) X.xe s
def Kk(tb:(St->XK)->TS)(th:iw->St->XK):TS:=fun D σ H=>tb (th D) D σ H
def Ia(te:XK->TE)(i:Nat):(St->XK)->TS:=fun W D σ H=>te (W σ) σ H fun v H1=>D.nx (σ.set i (some v)) H1
def EM(te:XK->TE):(St->XK)->TS:=fun W D σ H=>te (W σ) σ H fun _ H1=>D.nx σ H1
def IV(tc:TT)(ta tb:(St->XK)->TS):(St->XK)->TS:=fun W=>cu tc (ta W) (tb W)
def AJ(t:TS):(St->XK)->TS:=fun _=>t
def JR(X:Cx)(b:Stmt)(t:(St->XK)->TS):Prop:=∀(J6:Zd) (s:Shared) (σ:St) (H:Hp) (D:iw) (W:St->XK),Inv X J6 σ H s->t W D σ H->wpAny (model X.prog X.w) X.A (exec b X.env) (SP X J6 D) (XS X J6 W) s
theorem XE.xs{e:Value}{W:St->XK}(h:XE X J6 σ (W σ) e s):XS X J6 W e s:=let⟨n,a,C,od,f,g,y,I,i,q⟩:=h;⟨n,a,C,od,σ,f,g,y,I,i,q⟩
theorem Jh{e:Expr}{j:XK->TE}{x:Str}{i:Nat}{k f:Pos}(l:X.N.Nodup)(hi:X.N[i]?=some x)(hx:Loc X.env.scope x)(m:JS X e j)
  (o:mz e (some (.Name x k)) f.line X.env=pure false:=by rfl) (hf:X.fn x=true∨X.env.scope.names.lookup x=some .local:=by first|exact .inl rfl|exact .inr rfl|assumption) :
  JR X (.Assign [.Name x k] e f) (Ia j i):=by
 intro J6 s σ H D W I h;refine wpAny_Assign_Name (dF (m J6 s σ H _ (W σ) I h) (fun v w g=>?_) fun _ _ z=>z.xs) o;obtain⟨y,p,q,r,t⟩:=g;exact ol q l hi hx r (fun B u=>⟨_,p,u,t⟩) hf
theorem Hf{e:Expr}{g:XK->TE}{f:Pos}(i:JS X e g)(j:mz e none f.line X.env=pure false:=by rfl):JR X (.Expr e f) (EM g):=by
 intro J6 s σ H D W I h;exact wpAny_Expr_any (dF (i J6 s σ H _ (W σ) I h) (fun v o ⟨x,k,l,p,m⟩=>⟨σ,k,l,m⟩) fun _ _ z=>z.xs) I.quiet j
section
variable{f:Addr}{k:Nat}{fd:fe}{ps:Zb}{sp:Sp}{x:Str}{p pos:Pos}{e:Expr}{es:List Expr}{t:TA}
theorem XE.of{W:XK}{j:Value}{l:Hp}{m o:Shared}(r:Inv X J6 σ l m)(h:Eo X.prog X.w X.K X.stack l m W j o):XE X J6 σ W j o:=by
 obtain⟨a,C,od,u,y,os,g,un,i,B,q⟩:=h;exact⟨_,a,C,od,u,y,r.young,r.call' (ch:=[]) os un i g (fun b z=>absurd z (by simp)),B,q⟩
theorem Fx(F:iX X.prog X.w X.K X.mg X.base (Eo X.prog X.w X.K) k f fd ps sp)(E:dQ k X.A)(G:Gl X x)(J:X.mg x=some (.ref f))(L:eF X.K (.ref f)=true)(M:Binds X.K fd ps [])
  (N:PA X.nox (e::es) t) (m:(x==("__debug__":Str))=false:=by decide) (O:aB (e::es) X.env=(false,eval e X.env)::aB es X.env:=by rfl) (o:(backTo pos (aB es X.env)).any (·.1)=false:=by rfl) :
  JS X (.Call (.Name x p) (e::es) [] pos) (fun W=>rm sp [] W t):=by
 intro J6 s σ H Q W I h;refine lg (ik I G J ?_ m);refine tz (h₀:=X.base) I.ok.mod.kin L (dF (N pos J6 s σ H _ (I.wish _) h) (fun j B ⟨T,U,g,r,q⟩=>⟨g.kIn,?_⟩) fun _ _ z=>df z) O o;have l:=g.unwish;dsimp only at q;rw[dA]at q;have Y:(j++[]).length=ps.length:=by rw[dA,<-r.length];exact F.len _ _ _ _ q
 have D:=M B j l.kIn Y;rw[dA]at D;refine mY (pN (F.run X.A X.stack B U ⟨j,[]⟩ j T Q W E l.env0 D r q) fun y s' i=>?_);cases y with
 |error ev=>exact XE.of l i
 |ok fl =>
  cases fl with
  |ret u=>exact l.after i
  |next=>exact df i
  |brk=>exact df i
  |cont=>exact df i
theorem Fv{C:Addr}(M:Mk X.K C f)(F:iX X.prog X.w X.K X.mg X.base (Eo X.prog X.w X.K) k f fd ps sp)(N:dQ (k+1) X.A)(O:Gl X x)(T:X.mg x=some (.ref C))(U:Binds X.K fd ps [])
  (Y:PA X.nox (e::es) t) (y:(x==("__debug__":Str))=false:=by decide) (he:aB (e::es) X.env=(false,eval e X.env)::aB es X.env:=by rfl) (B:(backTo pos (aB es X.env)).any (·.1)=false:=by rfl) :
  JS X (.Call (.Name x p) (e::es) [] pos) (fun W=>EK C sp [] W t):=by
 intro J6 s σ H Q W I h;refine lg (ik I O T ?_ y);refine tz (h₀:=X.base) I.ok.mod.kin M.kp (dF (Y pos J6 s σ H _ (I.wish _) h) (fun j i ⟨vs,H1,l,r,q⟩=>⟨l.kIn,?_⟩) fun _ _ z=>df z) he B;have m:=l.unwish;have D:=q (i.heap.objs.size+1) i.heap.objs.size (m.hok.fresh (hV _)) (m.hok.fresh (aG _)) (cw (Nat.lt_succ_self _));rw[dA]at D;have o:=Inv.made (C:=C) m;have G:bg (V.ref (i.heap.objs.size+1)::vs) (Value.ref (i.heap.objs.size+1)::j):=.cons rfl r;have hl:((Value.ref (i.heap.objs.size+1)::j)++[]).length=ps.length:=by rw[dA,<-G.length];exact F.len _ _ _ _ D
 have J:=U _ (Value.ref (i.heap.objs.size+1)::j) o.kIn hl;rw[dA]at J;refine mY (FV (f:=f) m.kIn M.makes M.init (beq_iff_eq.mp M.fn) (pN (F.run _ X.stack _ _ ⟨Value.ref (i.heap.objs.size+1)::j,[]⟩ (Value.ref (i.heap.objs.size+1)::j) _ _ W (N.make C j [])
  (o.env0.make C j []) J G D) fun E s' g=>?_))
 cases E with
 |error L=>exact XE.of o g
 |ok fl =>
  cases fl with
  |ret u =>
   obtain⟨v,H',I3,rv,L,q3⟩:=o.after g;subst L;exact⟨rv,⟨V.ref (i.heap.objs.size+1),H',I3,rfl,q3⟩⟩
  |next=>exact df g
  |brk=>exact df g
  |cont=>exact df g
end
section
variable{cn nme:Str}{Dc:Addr}{np hpos:Pos}{b0:Stmt}{suite:List Stmt}{rest:List wC}{th:TS}{tr:iw->St->XK}{i:Nat}
def IW(K:Za)(Dc:Addr)(i:Nat)(th:TS)(tr:iw->St->XK):iw->St->XK:=fun D σ cls oa H=>∃C a b,cls=.ref C/\oa=some a/\wB K (.ref C) (.ref Dc)=some b /\
 if b=true then th { nx:=fun σ' H'=>D.nx (σ'.set i none) H',rt:=D.rt,bk:=fun σ' H'=>D.bk (σ'.set i none) H',ct:=fun σ' H'=>D.ct (σ'.set i none) H' } (σ.set i (some (.ref a))) H else tr D σ cls oa H
def Kl:iw->St->XK:=fun _ _ _ _ _=>False
theorem Jm:PH X [] Kl:=fun _ _ _ _ _ _ _ _ _ _ _ _ h=>h.elim
theorem Il(l:X.N.Nodup)(hi:X.N[i]?=some nme)(hx:X.env.scope.names.lookup nme=some .local)(B:Gl X cn)(E:X.mg cn=some (.ref Dc))(o:∀a:Addr,yJ (X.hnd (.ref a)) (b0::suite) th)(p:PH X rest tr)
  (r:(cn==("__debug__":Str))=false:=by decide):PH X (.ExceptHandler (some (.Name cn np)) (some nme) (b0::suite) hpos::rest) (IW X.K Dc i th tr):=by
 intro J6 n s σ H D a C od I y t ⟨Y,a',b,G,J,ex,h⟩;cases G;cases J;obtain⟨vs,g,_⟩:=I.exc t.trk;refine wpAny_handleBy_cons (codeAny_handlers_test ?_) (by intro q;cases q);refine ik (X:=X.hnd (.ref a)) (I.hnd (.ref a)) B E ?_ r;refine(PySem.W.exm_one (M:=model X.prog X.w) I.kIn (IM g) ex).here ?_;cases b with
 |false=>exact p J6 n s σ H D a C od I y t h
 |true =>
  refine codeAny_handlers_suite_as (GJ I y t fun s1 L O=>?_);refine ol (X:=X) L l hi (.inl hx) (v:=.ref a) (u:=.ref a) rfl (fun Q T=>?_) (.inr hx);refine dF (o a J6 Q _ H _ (T.hnd (.ref a)) h) (fun f s3 m=>?_) fun _ _ z=>df z;cases f with
  |next=>obtain⟨σ',e,j,q⟩:=m;exact sK (j.unhnd I.ok) l hi hx fun x k=>⟨_,e,k,q⟩
  |brk=>obtain⟨σ',e,j,q⟩:=m;exact sK (j.unhnd I.ok) l hi hx fun x k=>⟨_,e,k,q⟩
  |cont=>obtain⟨σ',e,j,q⟩:=m;exact sK (j.unhnd I.ok) l hi hx fun x k=>⟨_,e,k,q⟩
  |ret u=>obtain⟨v,σ',e,j,U,q⟩:=m;exact sK (j.unhnd I.ok) l hi hx fun x k=>⟨v,_,e,k,U,q⟩
end
end
def Bw(sp:Sp)(E:XK):Sp:=fun vs H Q _=>sp vs H Q E
structure BS(P:bF)(w:World)(K:Za)(mg:Str->Option Value)(base:Heap)(x:Str)(ps:Zb)(k:Nat)(sp:Sp):Prop where
 ex:∃f fd,iX P w K mg base (Eo P w K) k f fd ps sp/\mg x=some (.ref f)/\eF K (.ref f)=true/\Binds K fd ps []
structure JT(P:bF)(w:World)(K:Za)(mg:Str->Option Value)(base:Heap)(x:Str)(C:Addr)(ps:Zb)(k:Nat)(sp:Sp):Prop where
 ex:∃f fd,iX P w K mg base (Eo P w K) k f fd ps sp/\mg x=some (.ref C)/\Mk K C f/\Binds K fd ps []
structure Gu(P:bF)(w:World)(K:Za)(mg:Str->Option Value)(base:Heap)(x:Str)(C:Addr)(ps:Zb)(k:Nat)(sp:Sp):Prop where
 ex:∃f fd,iX P w K mg base CX0 k f fd ps sp/\mg x=some (.ref C)/\kE K C/\cc K (.ref C) "__init__"=some (some (.ref f))/\nQ K (.ref f)=true/\eF K (.ref C)=true/\Binds K fd ps []
section
variable{X:Cx}{k:Nat}{ps:Zb}{sp:Sp}{E:XK}{x:Str}{C:Addr}{p pos np J7:Pos}{e:Expr}{es:List Expr}{t:TA}{st:Stmt}{ts:TS}
theorem PS.nox(h:PS X.nox st ts):PS X st ts:=fun a s σ H D I f=>dF (h a s σ H D (I.wish _) f) (fun _ _ q=>q.unwish) fun _ _ z=>df z
theorem qg(D:BS X.prog X.w X.K X.mg X.base x ps k sp)(l:Lv X E)(i:dQ k X.A)(j:Gl X x)(m:PA X (e::es) t)(a:(x==("__debug__":Str))=false:=by decide)
  (n:aB (e::es) X.env=(false,eval e X.env)::aB es X.env:=by rfl) (g:(backTo pos (aB es X.env)).any (·.1)=false:=by rfl) :
  PE X (.Call (.Name x p) (e::es) [] pos) (aW (Bw sp E) t):=by
 obtain⟨f,s,F,o,q,r⟩:=D.ex;have h:PE X (.Call (.Name x p) (e::es) [] pos) (rm sp [] E t):=CF F i j o q r .nil l.passes m a n g;exact h
theorem Fw(D:BS X.prog X.w X.K X.mg X.base x ps k sp)(h:dQ k X.A)(i:Gl X x)(j:PA X.nox (e::es) t)(a:(x==("__debug__":Str))=false:=by decide)
  (l:aB (e::es) X.env=(false,eval e X.env)::aB es X.env:=by rfl) (g:(backTo pos (aB es X.env)).any (·.1)=false:=by rfl) :
  JS X (.Call (.Name x p) (e::es) [] pos) (fun W=>rm sp [] W t):=by
 obtain⟨f,q,F,m,n,o⟩:=D.ex;exact Fx F h i m n o j a l g
theorem Hi(D:JT X.prog X.w X.K X.mg X.base x C ps k sp)(h:dQ (k+1) X.A)(i:Gl X x)(j:PA X.nox (e::es) t)(a:(x==("__debug__":Str))=false:=by decide)
  (l:aB (e::es) X.env=(false,eval e X.env)::aB es X.env:=by rfl) (g:(backTo pos (aB es X.env)).any (·.1)=false:=by rfl) :
  JS X (.Call (.Name x p) (e::es) [] pos) (fun W=>EK C sp [] W t):=by
 obtain⟨f,o,F,m,M,n⟩:=D.ex;exact Fv M F h i m n j a l g
theorem DF(D:Gu X.prog X.w X.K X.mg X.base x C ps k sp)(l:Lv X E)(h:dQ (k+1) X.A)(i:X.calm=true)(j:Gl X x)(m:PA X (e::es) t)(a:(x==("__debug__":Str))=false:=by decide)
  (n:aB (e::es) X.env=(false,eval e X.env)::aB es X.env:=by rfl) (g:(backTo J7 (aB es X.env)).any (·.1)=false:=by rfl) :
  PS X (.Raise (some (.Call (.Name x np) (e::es) [] J7)) none pos) (AI C sp E t):=by
 obtain⟨f,r,F,o,c,hi,hf,kp,q⟩:=D.ex;exact Fs l c hi hf kp F h q i j o m a n g
end
section
variable{P:bF}{w:World}{K:Za}{mg:Str->Option Value}{base:Heap}
theorem IL.okX{x a:Str}{st:Stmt}{f:Addr}{n:fe}{N i:Zb}{k:Nat}{j:Sp}(F:IL K x a st f n)(S:gK N i (bA st))(len:∀g H Q E,j g H Q E->g.length=i.length)
  (h:∀(e:Value) (A:Around) (outer:List Env) (s:Shared) (H:Hp) (g:List V) (Q:VK) (E:XK),dQ k (A.deeper (envOfC a (bA st) s.heap.objs.size f e))->j g H Q E ->
   ∃t,yJ (uD (Eo P w K) P w K mg base N a (bA st) f e A outer s H E) (fD st) t/\t (bJ Q) (start N g) H):iX P w K mg base (Eo P w K) (k+1) f n i j:=by
 obtain⟨q,r,kV,doc,u,v,e,y,o,rfl,lk,l⟩:=F.ex;refine Ix lk l S len fun A outer s H g Q E p m=>?_;exact h e A outer s H g Q E p m
end
end L2
namespace L2
open PySem PySem.W
theorem JA{K:Frag}{C D:Addr}{b:Bool}(e:subIn K (.ref D) (.type "BaseException")=some true)(f:isClsIn K D=true)(g:typeIn K (.ref D)=some (.type "type"))(h:subIn K (.ref C) (.ref D)=some b):exmOne K (.ref C) (.ref D)=some b:=by
 have a:(clsIn K D).isSome=true:=f;unfold exmOne;rw[e,if_pos (by decide)];show(if((clsIn K D).isSome && typeIn K (.ref D)==some (.type "type"))=true then subIn K (.ref C) (.ref D)else none)=some b
 rw[if_pos (by rw[a,g];decide)];exact h
section
variable{X:Cx}
def sD:V->List V->Hp->VK->Prop:=fun x vs H Q=>∃(l:Addr) (xs:List V) (i:Nat) (y:V),x=.ref l/\vs=[.int i,y]/\H l=some (.lst xs)/\i<=xs.length/\xs.length<ao/\Q .non (upd H l (.lst (xs.take i++y::xs.drop i)))
theorem v3:JW X "list.insert" sD:=by
 intro O s σ H x T v w Q I B C h;obtain⟨l,xs,i,y,rfl,rfl,u,hi,U,q⟩:=h;cases B;obtain⟨j,f,rfl,k,m⟩:∃j f,w=[j,f]/\RelV (.int (i:Int)) j/\RelV y f:=by
  cases C with
  |cons k D =>
   cases D with
   |cons m o=>cases o;exact⟨_,_,rfl,k,m⟩
 obtain⟨t,rfl⟩:=k;obtain⟨z,a,n,r,E,e⟩:=I.lstM u;have Y:ao=16777216:=vy;have g:¬(!Builtin.List.listFitsIndex (i:Int))=true:=by
  have G:-(2 ^ 63:Int)<=(i:Int):=by omega
  have J:(i:Int)<2 ^ 63:=by omega
  unfold cT.List.listFitsIndex;rw[zzr1 G,zzr1 J]
  decide
 have L:a.toArray.size<=ao:=by rw[b_];omega
 generalize p:(i:Int)=N at g;have M:=@PySem.AutoSeq1.list_insert_list_int_val_1 l a.toArray n N t f g L;refine k7 F.slot_list_insert ⟨_,e,rfl⟩ F.entry_list_insert (F.args_list_insert_3 _ _ _) M ⟨e,?_⟩;refine⟨.non,_,I.lset (its':=a.take i++f::a.drop i) u e ?_ (bg.append (bg.take i r) (.cons m (bg.drop i r))) ?_,rfl,q⟩
 ·subst p;have li:a.length=xs.length:=E.symm;show(a.toArray.extract 0 (if(i:Int)<0 then((i:Int)+(a.toArray.size:Int)).toNat else min (i:Int).toNat a.toArray.size)).push f++a.toArray.extract (if(i:Int)<0 then((i:Int)+(a.toArray.size:Int)).toNat else min (i:Int).toNat a.toArray.size)=_
  rw[if_neg (by omega),b_,mT,mO (by omega)];apply Array.toList_inj.mp;simp[List.extract_eq_drop_take,pB]
 ·rw[aV,bP,aL,fc];omega
end
section
variable{X:Cx}{J6:Zd}{σ:St}{H:Hp}{s:Shared}{k:Nat}{f C:Addr}{fd:fe}{ps:Zb}{sp:Sp}
def lU(C:Addr)(sp:Sp)(t:TA):(St->XK)->TS:=fun W _ σ H=>t σ H fun vs H1=>vs.length<=ao/\∀a,H1 a=none ->
 sp (.ref a::vs) (upd H1 a (.ext (cX a C none))) (fun v H2=>v=.non/\∃od,H2 a=some (.ext (cX a C od))/\W σ (.ref C) (some a) (upd H2 a (.ext (ib a C od)))) E0
theorem Fp{x:Str}{np B G:Pos}{e:Expr}{l:List Expr}{t:TA}(c:kE X.K C)(hi:cc X.K (.ref C) "__init__"=some (some (.ref f)))(hf:nQ X.K (.ref f)=true)(kp:eF X.K (.ref C)=true)
  (F:iX X.prog X.w X.K X.mg X.base CX0 k f fd ps sp) (hr:dQ (k+1) X.A) (hb:Binds X.K fd ps []) (hc:X.calm=true) (hg:Gl X x) (hm:X.mg x=some (.ref C)) (ha:PA X.nox (e::l) t) (J:(x==("__debug__":Str))=false:=by decide)
  (he:aB (e::l) X.env=(false,eval e X.env)::aB l X.env:=by rfl) (L:(backTo B (aB l X.env)).any (·.1)=false:=by rfl) :
  JR X (.Raise (some (.Call (.Name x np) (e::l) [] B)) none G) (lU C sp t):=by
 intro J6 s σ H D W I h;obtain⟨nm,q,N,bs,bm,sn,sub,ab,col,dd,k0,k1,k2,k3,k5,eC,hv⟩:=c.obj;rw[arm_exec_Raise];simp only[evalOpt,Option.map];refine ar (q_ (B_ (C:=C) (nm:=nm) (q:=q) (N:=N) (bs:=bs) (bm:=bm) (hdct:=true) (sn:=sn) (sub:=sub) (ab:=ab) (col:=col) (dd:=dd) (k0:=k0) (k1:=k1) (k2:=k2) (k3:=k3) (k5:=k5) (newId:="ValueError.__new__") hv (I.ok.hd hc) ?_));refine ar (dF (Q:=fun v i=>∃a m M,v=.ref a/\i.heap.get? C=some (g_ nm q C N bs bm true sn sub ab col dd k0 k1 k2 k3 k5 "ValueError.__new__")/\i.heap.get? a=some { cls:=.ref C,dict:=m,data:=.fields M }/\M[1]?=some .none/\XS X J6 W (.ref a) i) ?_ (fun v s3 h3=>ar (q_ (be h3))) fun _ _ y=>y);refine lg (ik I hg hm ?_ J);refine tz (h₀:=X.base) I.ok.mod.kin kp (dF (ha B J6 s σ H _ (I.wish _) h) (fun us i ⟨M,H1,n,r,hz,q1⟩=>⟨n.kIn,?_⟩) fun _ _ z=>df z) he L;have O:=n.unwish;refine dF (vQ (E:=XS X J6 W) c hi hf F hr hb O r (by rw[<-r.length];exact hz) (q1 (i.heap.objs.size+1) (O.hok.fresh (hV _)))) (fun u s2 T=>?_) fun _ _ z=>z;obtain⟨eu,H2,U,m,e2,q2⟩:=T;obtain⟨Y,p,j⟩:=U.excN e2;refine⟨i.heap.objs.size+1,m,Y,eu,U.kIn _ _ eC,p,j,?_⟩;have w1:1<Y.size:=(e_.mp j).1;have I3:=U.write (x:=i.heap.objs.size+1) (e:=i.heap.objs.size+1) (o:=.ext (ib (i.heap.objs.size+1) C m)) (h':=s2.heap) (t':=s2.toks) (by rw[e2];exact eU) (.inl rfl) (fun b u _ g=>g) ⟨_,p⟩ (qy p w1);exact⟨i.heap.objs.size,_,C,m,σ,_,rfl,O.young,I3,⟨aa,hV _,Y,none,p,w1,.inl ⟨j,rfl⟩,fun t z=>by cases z⟩,q2⟩
theorem vU{x:Str}{l j g:Pos}{e:Expr}{a:List Expr}{t:TA}(D:Gu X.prog X.w X.K X.mg X.base x C ps k sp)(m:dQ (k+1) X.A)(n:X.calm=true)(o:Gl X x)(p:PA X.nox (e::a) t)(h:(x==("__debug__":Str))=false:=by decide)
  (q:aB (e::a) X.env=(false,eval e X.env)::aB a X.env:=by rfl) (i:(backTo j (aB a X.env)).any (·.1)=false:=by rfl) :
  JR X (.Raise (some (.Call (.Name x l) (e::a) [] j)) none g) (lU C sp t):=by
 obtain⟨f,fd,F,r,c,hi,hf,kp,u⟩:=D.ex;exact Fp c hi hf kp F m u n o r p h q i
end
section
variable{X:Cx}
def vI(t u:(St->XK)->TS):(St->XK)->TS:=fun W=>au (t W) (u W)
end
end L2
end

section
set_option Elab.async false
set_option linter.all false
set_option maxRecDepth 100000
namespace L2
open PySem PySem.Spec PyProof.Rows PySem.W
structure XO(K:Frag)(C:Addr)(bm:Zf):Prop where
 ex:∃nm q N bs sn sub ab col dd k0 k1 k2 k3 k5,K.lookup C=some (g_ nm q C N bs bm true sn sub ab col dd k0 k1 k2 k3 k5 "ValueError.__new__")
structure XG(K:Frag):Prop where
 hn:specialIn K (.builtin "object.__class__") "__get__"=some (some (.builtin "getset_descriptor.__get__"))
 htk:takesIn K (.builtin "object.__class__")=some true
structure XX(K:Frag)(mg:Str->Option Value)(x:Str)(C Ct:Addr):Prop where
 g:mg x=some (.ref C)
 o:XO K C (.ref Ct::j_)
 sa:findIn K (.ref C) "__setattr__"=some (some (.builtin "object.__setattr__"))
 ga:findIn K (.ref C) "__getattribute__"=some (some (.builtin "BaseException.__getattribute__"))
 gx:findIn K (.ref C) "__getattr__"=some none
 kp:keepIn K (.ref C)=true
 cl:findIn K (.ref C) "__class__"=some (some (.builtin "object.__class__"))
section
variable{K:Frag}{mg:Str->Option Value}{x y:Str}{C D Ct:Addr}{bm:Zf}
theorem XO.cls(h:XO K C bm):∃cd,clsIn K C=some cd/\cd.mro=.ref C::bm:=by
 obtain⟨f,q,N,bs,g,sub,i,a,j,k,l,m,n,o,e⟩:=h.ex;exact⟨_,by unfold clsIn;rw[e],rfl⟩
theorem XO.ty(h:XO K C bm):typeIn K (.ref C)=some (.type "type"):=by
 obtain⟨f,q,N,bs,g,sub,i,a,j,k,l,m,n,o,e⟩:=h.ex;show(K.lookup C).map (·.cls)=_;rw[e];rfl
theorem XO.sub(h:XO K C bm)(v:Value):subIn K (.ref C) v=some ((Value.ref C::bm).contains v):=by
 obtain⟨cd,e,m⟩:=h.cls;unfold subIn mroIn;dsimp only;rw[e];show(if cd.mro.isEmpty then none else some (cd.mro.contains v))=_
 rw[m];rfl
theorem XO.kitC(h:XO K C bm){a:Zf}(g:XO K D a):kitCls K (.ref C) (.ref D)=some ((Value.ref C::bm).contains (.ref D)):=by
 obtain⟨cd,e,m⟩:=g.cls;unfold kitCls;dsimp only;rw[e,g.ty,if_pos (show((some cd).isSome && some (Value.type "type")==some (Value.type "type"))=true by show(some (Value.type "type")==some (Value.type "type"))=true;decide)];exact h.sub _
theorem Cv(a b:Addr):((Value.ref a)==(Value.ref b))=decide (b=a):=by
 by_cases e:b=a
 ·subst e;simp
 ·rw[zzr0 e];exact beq_false_of_ne fun z=>e (by injection z with z;exact z.symm)
theorem IR(a:Addr):j_.contains (Value.ref a)=false:=rfl
theorem XX.cls(h:XX K mg x C Ct):kE K C:=by
 obtain⟨f,q,N,bs,g,sub,i,a,j,k,l,m,n,p,e⟩:=h.o.ex;exact⟨⟨f,q,N,bs,_,g,sub,i,a,j,k,l,m,n,p,e,.own .base⟩,h.sa,h.ga,h.gx⟩
theorem XO.exm(h:XO K C bm){a:Zf}(g:XO K D a)(b:a.contains (.type "BaseException")=true):exmOne K (.ref C) (.ref D)=some ((Value.ref C::bm).contains (.ref D)):=by
 unfold exmOne;rw[g.sub,jt,b,if_pos (by simp)];exact h.kitC g
theorem XX.exm(h:XX K mg x C Ct)(g:XX K mg y D Ct)(a:D≠Ct):exmOne K (.ref C) (.ref D)=some (decide (D=C)):=by
 have f:((Value.ref D)==(Value.ref Ct))=false:=by rw[Cv];exact zzr0 fun z=>a z.symm
 rw[h.o.exm g.o rfl,jt,jt,IR,f,Cv];by_cases e:C=D
 ·subst e;simp
 ·rw[zzr0 e,zzr0 fun z=>e z.symm];rfl
end
theorem xM{X:Cx}{b:Stmt}{t:TS}(h:PS X.nox b t):JR X b (AJ t):=fun a s σ H D W I q=>dF (h a s σ H D (I.wish _) q) (fun _ _ z=>z.unwish) fun _ _ z=>df z
structure BQ(n:Nat)(h:Heap)(H:Hp)(a C:Addr)(od:Option Addr)(L:Addr):Prop where
 trk:H a=some (.ext (ib a C od))
 new:n<=a
 tr:∃vs t oT ts,h.get? a=some { cls:=.ref C,dict:=od,data:=.fields vs }/\vs[1]?=some (.ref t)/\n<=t/\t≠a/\h.get? t=some oT/\oT.data=.fields ts/\ts[3]?=some (rawInt L)/\H t=none
section
variable{M:Model}{A:Around}{E:Zc}{s:Shared}{base:Heap}{env:Env}{outer:List Env}{L e:Addr}{oe:Obj}{vs:Array Value}{Q:Unit->Shared->Prop}
theorem B9{f:Value}{g:Bool}(u:A.frames=some (env::outer))(x:s.heap.FunFrames base (env::outer))(hf:env.frame=some L)
  (y:s.heap.get? e=some oe) (r:oe.data=.fields vs) (m:1<vs.size)
  (h:∀t n B C,GC (mI (env::outer)) e none s.heap t->t.get? e=some { oe with data:=.fields n }->n[1]?=some (.ref s.heap.objs.size) ->
   t.get? s.heap.objs.size=some B->B.data=.fields C->C[3]?=some (rawInt L)->Q () { s with heap:=t }) :
  wpAny M A (do let T <- frameOf env;let pl <- entryPlaceOf L g;let U <- wF f T .none (rawInt L) .none pl;setField (.ref e) 1 U) Q E s:=by
 have v:e∉mI (env::outer):=fun z=>by
  obtain⟨_,o,l,Y⟩:=x.mem z;rw[y]at l;cases l;exact Y vs r
 refine ar (wpAny_frameOf_fun u x hf fun a p=>ar (wpAny_entryPlaceOf fun pl w=>?_));unfold wF newFields;refine ar (s_ ?_ (w.sizeOk5 _ _ _ _ _));generalize D:({ cls:=.type "traceback",dict:=none,data:=.fields ([f,.ref L,.none,rawInt L,.none]++(if pl.isEmpty then lf 6 Value.none else pl)).toArray }:Obj)=i
 have dN:i.data=.fields ([f,.ref L,.none,rawInt L,.none]++(if pl.isEmpty then lf 6 Value.none else pl)).toArray:=by rw[<-D]
 have fN:i.isFreed=false:=by rw[<-D];rfl
 have G:a.get? e=some oe:=(p.2.1 e v).trans y;have H:=bh (h:=a) i G;have I:a.objs.size=s.heap.objs.size:=p.1;refine ju H r m ?_;have ne:a.objs.size≠e:=eV (aQ G);have d3:=hJ r (·.setIfInBounds 1 (Value.ref a.objs.size));have e3:=hW (c9 (·.setIfInBounds 1 (Value.ref a.objs.size))) H (kU d3);have t3:((a.push i).update e (c9 (·.setIfInBounds 1 (Value.ref a.objs.size)))).get? a.objs.size=some i:=(fG (a.push i) _ (cZ ne)).trans (dJ a fN);have k:∀b o,b≠e->a.get? b=some o->((a.push i).update e (c9 (·.setIfInBounds 1 (Value.ref a.objs.size)))).get? b=some o:=fun b o j q=>by
  rw[fG _ _ (cZ j)];exact bh _ q
 have J:((a.push i).update e (c9 (·.setIfInBounds 1 (Value.ref a.objs.size)))).get? e=some { oe with data:=.fields (vs.setIfInBounds 1 (Value.ref a.objs.size)) }:=by
  rw[e3,Obj.mapF r]
 refine h _ _ _ _ ⟨fun b o q j _ N=>k b o j ((p.2.1 b N).trans q),fun b o q j _ N=>?_,fun b o q=>?_⟩ J ?_ (by rw[<-I];exact t3) dN ?_
 ·obtain⟨O,l⟩:=p.2.2 b o q;exact⟨O,k b _ j l⟩
 ·by_cases j:b=e
  ·rw[j];exact⟨_,J⟩
  ·obtain⟨O,l⟩:=p.2.2 b o q;exact⟨_,k b _ j l⟩
 ·rw[<-I];simp[m]
 ·simp
theorem GH{n:Nat}{T:Option Addr}(l:A.frames=some (env::outer))(J:s.heap.FunFrames base (env::outer))(hf:env.frame=some L)
  (r:s.heap.get? e=some oe) (u:oe.data=.fields vs) (Y:Trc n s.heap e vs T)
  (h:∀k g y v,GC (mI (env::outer)) e T s.heap k->k.get? e=some { oe with data:=.fields g }->g[1]?=some (.ref s.heap.objs.size) ->
   k.get? s.heap.objs.size=some y->y.data=.fields v->v[3]?=some (rawInt L)->Q () { s with heap:=k }):wpAny M A (j5 (.ref e) env) Q E s:=by
 unfold j5;simp only[hf];rcases Y with⟨m,rfl⟩|⟨t,y,v,rfl,m,_,B,w,i,N⟩
 ·refine ar (cx r u m ?_);rw[if_neg (by decide)];exact B9 l J hf r u (e_.mp m).1 h
 ·refine ar (cx r u m ?_);rw[if_pos (show(Value.ref t != Value.none)=true from by simp)];refine ar (cx w i N ?_);rw[if_neg (show ¬((Value.none==rawInt L)=true)from by simp[rawInt])];refine ar (ju w i (e_.mp N).1 ?_);have a:∀b,b≠t->(s.heap.update t (c9 (·.setIfInBounds 3 Value.none))).get? b=s.heap.get? b:=fun b f=>fG _ _ (cZ f);have tt:=hW (c9 (·.setIfInBounds 3 Value.none)) w (kU (hJ i _));have p:∀b o,s.heap.get? b=some o->(∀ws,o.data≠.fields ws)->b≠t:=fun b o f j q=>by
   rw[q,w]at f;cases f;exact j v i
  have sz:(s.heap.update t (c9 (·.setIfInBounds 3 Value.none))).objs.size=s.heap.objs.size:=Heap.size_after_update ..;refine B9 (s:={ s with heap:=s.heap.update t (c9 (·.setIfInBounds 3 Value.none)) }) l (J.of_keeps fun b o f j=>⟨o,(a b (p b o f j)).trans f,rfl⟩) hf ((a e (cZ B)).trans r) u (e_.mp m).1 ?_;intro k g C D x q1 O U q4 q5;rw[sz]at O U;refine h k g C D ⟨fun b o q G H I=>x.keep b o ((a b fun z=>H (by rw[z])).trans q) G (by simp) I,fun b o q G H I=>x.slot b o ((a b fun z=>H (by rw[z])).trans q) G (by simp) I,fun b o q=>?_⟩ q1 O U q4 q5;by_cases f:b=t
  ·rw[f];exact x.there t _ tt
  ·exact x.there b o ((a b f).trans q)
end
section
variable{X:Cx}{J6:Zd}{σ:St}{H:Hp}{s:Shared}{n:Nat}{a C:Addr}{od:Option Addr}
def Fly(X:Cx)(n:Nat)(h:Heap)(H:Hp)(a C:Addr)(od:Option Addr):Prop:=ii n h H a C od∨BQ n h H a C od X.env.locals
theorem Ex{M:Model}{Q:Unit->Shared->Prop}{E:Zc}(I:Inv X J6 σ H s)(y:kM X J6 n)(st:X.stack=X.env::X.outer)(j:X.env.frame=some X.env.locals)(fl:Fly X n s.heap H a C od)
  (h:∀L,Inv X J6 σ H L->BQ n L.heap H a C od X.env.locals->Q () L):wpAny M X.A (j5 (.ref a) X.env) Q E s:=by
 rcases fl with fl|fl
 ·obtain⟨vs,T,e,z,tr,fT⟩:=fl.tr;have k:=I.stack;rw[st]at k;refine GH (n:=n) (base:=X.base) (by rw[I.ok.frames,st]) k j e rfl tr fun h' r oT ts u q1 q2 q3 q4 q5=>?_;have z':1<r.size:=(e_.mp q2).1;have N:∀b∈mI (X.env::X.outer),H b=none:=fun b f=>I.stkFree b (by rw[st];exact f);have O:=zU I.hok fl.trk fT N u q1 z';have nT:∀t,T=some t->n<=t:=fun t J=>by
   rcases tr with⟨_,q⟩|⟨t',_,_,q,_,l,_⟩
   ·rw[q]at J;cases J
   ·rw[q]at J;cases J;exact l
  have U:∀b,b≠X.env.locals->b∉X.fs->b∉mI (X.env::X.outer):=fun b Y h2 f=>by
   unfold mI at f;rw[nU,j]at f;exact(bw.mp f).elim Y h2
  have i:∀b,H b=none->b≠a:=fun b f q=>by rw[q,fl.trk]at f;cases f
  obtain⟨m0,⟨oL,an,ap,v,rL⟩,_⟩:=id I.loc;have w:X.env.locals∈mI (X.env::X.outer):=by unfold mI;rw[nU,j];exact bR
  have ab:some X.env.locals≠T:=fun q=>absurd (nT _ q.symm) (fP y.loc);obtain⟨as,ai⟩:=u.slot _ oL v (i _ I.free) ab w;refine h _ (I.step (g':=s.gens) (d':=s.drawn) (t':=s.toks) (ch:=T.toList) (fun b f=>?_) (fun b o hL hf hc g B=>?_) (fun b o hL hf hc g B=>?_) (fun b o _ _ B=>B) (fun b o _ g=>u.there b o g)
   (fun _ _ g=>g) (fun _ _ _ g=>g) (fun b ps g=>⟨#[],by rw[g];simp⟩) (fun m hm=>?_) O I.bare) ⟨fl.trk,fl.new,r,s.heap.objs.size,oT,ts,q1,q2,?_,?_,q3,q4,q5,?_⟩
  ·have hT:T=some b:=by cases T with
    |none=>simp at f
    |some t=>simp at f;rw[f]
   have D:=nT b hT;exact⟨.inr (aP y.s0 D),fun q=>absurd D (fP (q▸y.loc)),fun x c g q=>absurd D (fP (q▸y.cell x c g)),fun p hp q=>absurd D (fP (q▸y.pin p hp))⟩
  ·exact u.keep b o g (i b B) (fun q=>hc (by rw[<-q];simp)) (U b hL hf)
  ·refine u.slot b o g (i b B) (fun q=>hc (by rw[<-q];simp)) ?_;unfold mI;rw[nU,j];exact bQ _ hf
  ·obtain⟨o',aj,ak,G,r'⟩:=hm;rw[v]at G;cases G;exact⟨_,aj,ak,ai,r'⟩
  ·exact aP (aP fl.new (c6 (aQ e))) (aG _)
  ·exact eV (aQ e)
  ·exact I.hok.fresh (aG _)
 ·obtain⟨vs,t,oT,ts,e,Y,D,aC,hT,al,h3,nt⟩:=fl.tr;unfold j5;simp only[j];refine ar (cx e rfl Y ?_);rw[if_pos (show(Value.ref t != Value.none)=true from by simp)];refine ar (cx hT al h3 ?_);rw[if_pos (show(rawInt X.env.locals==rawInt X.env.locals)=true from by simp)];exact be (h s I fl)
theorem Ey{M:Model}{A:Around}{Q:Unit->Shared->Prop}{E:Zc}{L:Addr}(r:Option Addr)(I:Inv X J6 σ H s)(y:kM X J6 n)(J:BQ n s.heap H a C od L)
  (h:∀l m t u v,Inv X J6 σ H l->l.heap.get? a=some { cls:=.ref C,dict:=od,data:=.fields m }->m[1]?=some (.ref t)->n<=t->t≠a->l.heap.get? t=some u->u.data=.fields v->v[3]?=some (r.elim Value.none fun f=>rawInt f)->H t=none->Q () l) :
  wpAny M A (j3 (.ref a) r) Q E s:=by
 obtain⟨m,t,u,v,e,z,j,k,B,i,D,G⟩:=J.tr;unfold j3;refine ar (cx e rfl z ?_);rw[if_pos (show(Value.ref t != Value.none)=true from by simp)];refine ju B i (e_.mp D).1 ?_;have kp:∀b o,b≠t->s.heap.get? b=some o->(s.heap.update t (c9 (·.setIfInBounds 3 (r.elim Value.none fun f=>rawInt f)))).get? b=some o:=fun b o N g=>by
  rw[fG _ _ (cZ N)];exact g
 have w:=(e_.mp D).1;exact h _ m t _ _ (I.turned (t':=s.toks) (it:=t) kp G (fun q=>absurd j (fP (q▸y.loc))) (.inr (aP y.s0 j)) (fun x c g q=>absurd j (fP (q▸y.cell x c g))) (fun p O q=>absurd j (fP (q▸y.pin p O))))
  (kp a _ (cZ k) e) z j k (hW _ B (kU (hJ i _))) (hJ i _) (by simp[w]) G
theorem B8{M:Model}{Q:Unit->Shared->Prop}{E:Zc}(I:Inv X J6 σ H s)(y:kM X J6 n)(st:X.stack=X.env::X.outer)(i:X.env.frame=some X.env.locals)(j:Fly X n s.heap H a C od)
  (h:∀e,Inv X J6 σ H e->ii n e.heap H a C od->Q () e):wpAny M X.A (j5 (.ref a) X.env) (fun _ e=>wpAny M X.A (j3 (.ref a) none) Q E e) E s:=by
 refine Ex I y st i j fun G k f=>Ey none k y f fun l m t o p q r g u v w x z B=>h l q ⟨f.trk,f.new,m,some t,r,(e_.mp g).1,.inr ⟨t,o,p,rfl,g,u,v,w,x,z⟩,fun J D=>by cases D;exact B⟩
def IH(X:Cx)(J6:Zd)(W:St->XK)(e:Value)(s':Shared):Prop:=∃n a C od σ' H',e=.ref a/\kM X J6 n/\Inv X J6 σ' H' s'/\Fly X n s'.heap H' a C od/\W σ' (.ref C) (some a) H'
theorem XS.two{W:St->XK}{e:Value}{f:Shared}(h:XS X J6 W e f):IH X J6 W e f:=let⟨n,a,C,od,σ',g,i,y,I,j,q⟩:=h;⟨n,a,C,od,σ',g,i,y,I,.inl j,q⟩
theorem Ar{W:St->XK}{M:Model}(st:X.stack=X.env::X.outer)(g:X.env.frame=some X.env.locals):B2 M X.A X.env (IH X J6 W):=by
 rintro e L ⟨n,a,C,od,σ',k,rfl,y,I,l,q⟩;refine Ex I y st g l fun N m f=>?_;obtain⟨h,t,i,j,o,p,O,r,Q,u,T,U⟩:=id f.tr;refine ar (cx o rfl p ?_);rw[if_neg (show ¬((Value.ref t==Value.none)=true)from by simp)];rw[g];exact Ey (some X.env.locals) m y f fun Y h t i j v w x z B D E G J=>⟨n,a,C,od,σ',k,rfl,y,v,.inr ⟨f.trk,f.new,h,t,i,j,w,x,z,B,D,E,G,J⟩,q⟩
end
def PY(X:Cx)(b:List Stmt)(t:(St->XK)->TS):Prop:=∀(J6:Zd) (s:Shared) (σ:St) (H:Hp) (D:iw) (W:St->XK),Inv X J6 σ H s->t W D σ H->wpAny (model X.prog X.w) X.A (execs b X.env) (SP X J6 D) (IH X J6 W) s
def KO(X:Cx)(b:Stmt)(t:(St->XK)->TS):Prop:=∀(J6:Zd) (s:Shared) (σ:St) (H:Hp) (D:iw) (W:St->XK),Inv X J6 σ H s->t W D σ H->wpAny (model X.prog X.w) X.A (exec b X.env) (SP X J6 D) (IH X J6 W) s
section
variable{X:Cx}{J6:Zd}{σ:St}{H:Hp}{s:Shared}{t u:(St->XK)->TS}{b:Stmt}{bs:List Stmt}{pos:Pos}
theorem Ik(h:JR X b t):KO X b t:=fun J6 s σ H D W I q=>dF (h J6 s σ H D W I q) (fun _ _ z=>z) fun _ _ z=>z.two
theorem qb(h:KO X b t):PY X [b] t:=by
 intro J6 s σ H D W I q;refine B3 (dF (h J6 s σ H D W I q) (fun f a q=>?_) fun _ _ y=>y);cases f with
 |next=>exact rf q
 |ret v=>exact q
 |brk=>exact q
 |cont=>exact q
theorem oP(h:KO X b t)(a:PY X bs u):PY X (b::bs) (vI t u):=by
 intro J6 s σ H D W I q;refine B3 (dF (h J6 s σ H _ W I q) (fun f e q=>?_) fun _ _ y=>y);cases f with
 |next=>obtain⟨σ1,g,i,j⟩:=q;exact a J6 e σ1 g D W i j
 |ret v=>exact q
 |brk=>exact q
 |cont=>exact q
theorem Fo:PY X [] (AJ br):=fun _ _ σ H _ _ I h=>rf ⟨σ,H,I,h⟩
theorem Ij{c:Expr}{a b:List Stmt}{f:TT}{g i:(St->XK)->TS}(n:PT X.nox c f)(o:PY X a g)(p:PY X b i):KO X (.If c a b pos) (IV f g i):=by
 intro J6 s σ H D W I h;refine wpAny_If (dF (n J6 s σ H _ (I.wish _) h) (fun d j e=>?_) fun _ _ z=>df z);obtain⟨k,l,m⟩:=e;cases d with
 |true=>exact o J6 j σ k D W l.unwish m
 |false=>exact p J6 j σ k D W l.unwish m
def Ib(te:XK->TE):(St->XK)->TS:=fun W D σ H=>te (W σ) σ H fun v H1=>D.rt v H1
def Ie(wi:TI)(g:TG)(tb:(St->XK)->TS):(St->XK)->TS:=fun W=>gk wi g (tb W)
theorem IH.unpinned{pl:Zd}{W:St->XK}{e:Value}{f:Shared}(h:IH X (J6++pl) W e f):IH X J6 W e f:=by
 obtain⟨n,a,C,g,σ',i,j,y,I,k,q⟩:=h;exact⟨n,a,C,g,σ',i,j,⟨y.s0,y.loc,y.cell,fun p l=>y.pin p (by rcases bu.mp l with z|z;exact cL _ z;exact dI _ (cL _ z))⟩,I.unpinned,k,q⟩
theorem Jg{Y j:Expr}{body:List Stmt}{wi:TI}{g:TG}{tb:(St->XK)->TS}(hc:X.calm=true)(hi:PI X.nox Y j wi)(hg:PG X.nox Y g)(k:PY X body tb)
  (hs:∀x,vA j X.env x=pure x:=by intro _;rfl) (st:X.stack=X.env::X.outer:=by rfl) (sf:X.env.frame=some X.env.locals:=by rfl):KO X (.For Y j body [] pos) (Ie wi g tb):=by
 intro J6 s σ H D E I h;have L:B2 (model X.prog X.w) X.A X.env (IH X J6 E):=Ar st sf;refine wpAny_For (dF (hi J6 s σ H _ (I.wish _) h) (fun v s1 h1=>dF h1 (fun an s2 h2=>?_) fun _ _ z=>df z) fun _ _ z=>df z) hs;obtain⟨it,G,tn,J,H2,e,ab,T,ai,aj,W,⟨m0,w0⟩,turn⟩:=h2;subst e;have I2:=ab.unwish;have f2:∀b∈G,lN X J6 H2 b:=aj;have l:∀{y:Hp},(∀b∈G,y b=none)->∀b∈G,lN X J6 y b:=fun hn b k=>⟨hn b k,(f2 b k).2⟩;refine codeAny_forLoop_any (fun n s'=>∃i σ' y,Inv X J6 σ' y s'/\tn i s'.heap/\(∀b∈G,y b=none)/\W i n σ' y) ?_ m0 ⟨0,σ,H2,I2,ai,fun b k=>(f2 b k).1,w0⟩;rintro n s3 ⟨i,σ3,U,I3,M,O,w3⟩;rcases turn i n σ3 U w3 with⟨stop,qn⟩|⟨go,N,hN,step⟩
 ·refine kJ L (dF (T.done X rfl rfl rfl hc i J6 s3 σ3 U _ I3 (l O) M stop) (fun r s4 a=>?_) fun _ _ z=>z);obtain⟨hr,I4⟩:=a;subst hr;exact rf ⟨σ3,U,I4,qn⟩
 ·refine kJ L (dF (T.item X rfl rfl rfl hc i J6 s3 σ3 U _ I3 (l O) M go) (fun r s4 a=>?_) fun _ _ z=>z);obtain⟨u,hr,h4⟩:=a;subst hr;refine kJ L (dF h4 (fun _ s5 a=>?_) fun _ _ z=>z);obtain⟨x,H5,I5,r5,y5,C,ak⟩:=a;have al:=I5.pinned (l ak) (T.obj _ _ C);refine kJ L (dF (hg _ s5 σ3 H5 x u _ (al.wish _) r5 (step x H5 y5)) (fun _ s6 a=>?_) fun _ _ z=>df z);obtain⟨σ6,H6,I6,q6⟩:=a;refine kJ L (dF (k _ s6 σ6 H6 _ E I6.unwish q6) (fun f s7 B=>?_) fun _ _ z=>z.unpinned);have again:∀{σ7:St}{p:Hp},Inv X (J6++qe G s5.heap) σ7 p s7->N σ7 p->∃m,m<n/\∃i σ' y,Inv X J6 σ' y s7/\tn i s7.heap/\(∀b∈G,y b=none)/\W i m σ' y:=fun{σ7 p} q Q=>by
   obtain⟨m',hm,w7⟩:=hN σ7 p Q;refine⟨m',hm,i+1,σ7,p,q.unpinned,T.keep _ _ _ C fun b k o e=>(q.pin (b,o) (dI _ (dI _ (gy k e)))).1,fun b k=>?_,w7⟩;obtain⟨o,e,d⟩:=T.obj _ _ C b k;exact(q.pin (b,o) (dI _ (dI _ (gy k e)))).2.1
  cases f with
  |next=>obtain⟨σ7,p,q,Q⟩:=B;exact again q Q
  |cont=>obtain⟨σ7,p,q,Q⟩:=B;exact again q Q
  |brk=>obtain⟨σ7,p,q,B⟩:=B;exact⟨σ7,p,q.unpinned,B⟩
  |ret v=>obtain⟨x7,σ7,p,q,r7,B⟩:=B;exact⟨x7,σ7,p,q.unpinned,r7,B⟩
theorem Hg{body:List Stmt}{j:wC}{k:List wC}{l:(St->XK)->TS}{g:iw->St->XK}(m:PY X body l)(o:PH X (j::k) g)(st:X.stack=X.env::X.outer:=by rfl)(p:X.env.frame=some X.env.locals:=by rfl):
  PS X (.Try body (j::k) [] [] pos) (Kk l g):=by
 intro J6 s σ H D I h;refine wpAny_Try_except (dF (m J6 s σ H D (g D) I h) (fun f r q=>?_) fun e r ⟨n,a,C,w,σ',x,z,y,B,E,q⟩=>?_)
 ·cases f with
  |next=>exact rf q
  |ret v=>exact q
  |brk=>exact q
  |cont=>exact q
 ·subst z;exact B8 B y st p E fun G J i=>o J6 _ G σ' x D a C w J y i q
end
theorem Fq{P:bF}{w:World}{K:Za}{l:Str->Option Value}{base:Heap}{N:Zb}{i:Str}{scope:Scope}{f:Addr}{cd:Value}{A:Around}{outer:List Env}{m:Shared}{o:Hp}{E:XK}{b:List Stmt}{t:(St->XK)->TS}
  (h:PY (uD (Eo P w K) P w K l base N i scope f cd A outer m o E) b t):yJ (uD (Eo P w K) P w K l base N i scope f cd A outer m o E) b (t fun _=>E):=by
 intro p s σ H D I q;refine dF (h p s σ H D (fun _=>E) I q) (fun _ _ z=>z) fun e J k=>?_;obtain⟨n,a,C,r,σ',u,v,y,x,B,q⟩:=k;subst v;show wpAny _ _ _ _ _ _;unfold leaving;exact ar (B8 x y rfl rfl B fun G g j=>⟨a,C,r,u,rfl,g.os,g.bare,g.base,g.hok,j.mono y.s0,q⟩)
section
variable{X:Cx}{k:Nat}{ps:Zb}{sp:Sp}{x m:Str}{C:Addr}{p pos J8:Pos}{o e:Expr}{es:List Expr}{t:TA}{ta:TE}
theorem Ji{a:XK->TE}(f:JS X e a):JR X (.Return (some e) pos) (Ib a):=by
 intro g s σ H D W I h;exact wpAny_Return_some (dF (f g s σ H _ (W σ) I h) (fun v q ⟨x,i,j,l,n⟩=>⟨x,σ,i,j,l,n⟩) fun _ _ z=>z.xs)
end
def HZ:Expr->List Str
 |.Name x _=>[x]
 |.Tuple es _ _=>es.filterMap fun e=>match e with | .Name x _=>some x|_=>none
 |_=>[]
theorem bK{X:Cx}{b:List Stmt}{t:TS}{D:iw}{σ:St}{H:Hp}(r:t D σ H)(p:yJ X b t):∃t,yJ X b t/\t D σ H:=⟨t,p,r⟩
section
variable{X:Cx}{k k0:Nat}{ps:Zb}{sp:Sp}{x m:Str}{C:Addr}{p pos J8:Pos}{o e a b:Expr}{es:List Expr}{t:TA}{ta tb te:TE}
theorem qf(h:dQ k0 X.A)(D:i8 X.prog X.w X.K X.mg X.base x ps k sp)(i:PA X (e::es) t)(j:k<=k0:=by decide)(l:Gl X x:=by rfl)(f:(x==("__debug__":Str))=false:=by decide)
  (n:aB (e::es) X.env=(false,eval e X.env)::aB es X.env:=by rfl) (g:(backTo pos (aB es X.env)).any (·.1)=false:=by rfl) :
  PE X (.Call (.Name x p) (e::es) [] pos) (aW sp t):=Io D (h.mono j) l i f n g
theorem K7{pl:Sem Bool}(h:dQ k0 X.A)(M:JV X.prog X.w X.K X.mg X.base C m ps k sp)(i:PE X o ta)(j:k<=k0:=by decide)
  (l:eval (.Call (.Attribute o m J8) [] [] pos) X.env=(do
   let g <- eval o X.env
   vB J8.atName
   let(f,first) <- nS [g] (vx g m pl)
   wY pos f first (backTo pos (aB [] X.env)) (mW pos (mV [] X.env))):=by rfl) :
  PE X (.Call (.Attribute o m J8) [] [] pos) (tM C m sp [] E0 ta bS):=Hj (pl:=pl) M (h.mono j) i l
theorem xl(f:PE X a ta)(g:PE X b tb)(h:Ef b:=by exact fun _ _=>rfl):PE X (.Subscript a b pos) (aI (cy X.K) ta tb):=CC CM f g h
theorem xt(f:PE X a ta)(g:PE X b tb)(h:Ef b:=by exact fun _ _=>rfl):PE X (.Subscript a b pos) (aI (t8 X.K) ta tb):=CC F1 f g h
theorem xq(f:PE X a ta)(g:PE X b tb)(h:Ef b:=by exact fun _ _=>rfl):PE X (.Subscript a b pos) (aI (DB X.K) ta tb):=CC Jv f g h
theorem xs'(f:PE X a ta)(g:PE X b tb)(h:Ef b:=by exact fun _ _=>rfl):PE X (.Subscript a b pos) (aI xL ta tb):=CC F_ f g h
theorem jE{f:CmpOp}{r:R2}(g:mK X (eG f) r)(h:PE X a ta)(i:PE X b tb)(j:kK f b=false:=by exact FN _):PT X (.Compare a [f] [b] pos) (bc (aI r ta tb)):=Cz g h i j
theorem yn{f:CmpOp}{r:R2}(g:mK X (eG f) r)(h:PE X a ta)(i:PE X b tb)(j:kK f b=false:=by exact FN _):PE X (.Compare a [f] [b] pos) (aI r ta tb):=CD g h i j
theorem GW{f:CmpOp}{r:R2}(g:mK X (eG f) r)(h:PE X a ta)(i:PE X b tb)(j:kK f b=false:=by with_unfolding_all rfl):PT X (.Compare a [f] [b] pos) (bc (aI r ta tb)):=Cz g h i j
theorem KF{f:CmpOp}{r:R2}(g:mK X (eG f) r)(h:PE X a ta)(i:PE X b tb)(j:kK f b=false:=by with_unfolding_all rfl):PE X (.Compare a [f] [b] pos) (aI r ta tb):=CD g h i j
theorem qB{id:String}{r:List V->Hp->VK->Prop}(h:g7 X (.builtin id) r)(i:X.mg x=none)(j:je x=some (.builtin id))(l:PA X (e::es) t)(n:Gl X x:=by rfl)(q:x≠"__name__":=by decide)(f:(x==("__debug__":Str))=false:=by decide)
  (s:aB (e::es) X.env=(false,eval e X.env)::aB es X.env:=by rfl) (g:(backTo pos (aB es X.env)).any (·.1)=false:=by rfl):PE X (.Call (.Name x p) (e::es) [] pos) (du r t):=zJ h n i j l q f s g
theorem qL(g:X.calm=true)(h:X.mg "list"=none)(i:PA X (e::es) t)(j:Gl X "list":=by rfl)
  (l:aB (e::es) X.env=(false,eval e X.env)::aB es X.env:=by rfl) (f:(backTo pos (aB es X.env)).any (·.1)=false:=by rfl):PE X (.Call (.Name "list" p) (e::es) [] pos) (du (fU X.K) t):=l5 (BE g) j h uL i (by decide) (by decide) l f
theorem ql(g:X.mg "len"=none)(h:PA X (e::es) t)(i:Gl X "len":=by rfl)
  (j:aB (e::es) X.env=(false,eval e X.env)::aB es X.env:=by rfl) (f:(backTo pos (aB es X.env)).any (·.1)=false:=by rfl):PE X (.Call (.Name "len" p) (e::es) [] pos) (du (cD X.K) t):=zJ Eb i g PySem.boot_len h (by decide) (by decide) j f
theorem qs(i:Nat){f:Pos}(g:X.N.Nodup)(h:PE X e te)(hi:X.N[i]?=some x:=by rfl)(hx:Loc X.env.scope x:=by first|exact Or.inl rfl|exact Or.inr rfl)(j:mz e (some (.Name x f)) pos.line X.env=pure false:=by rfl)(hf:X.fn x=true∨X.env.scope.names.lookup x=some .local:=by first|exact .inl rfl|exact .inr rfl|assumption):
  PS X (.Assign [.Name x f] e pos) (aN te (d_ i)):=Jj g hi hx h j hf
theorem gn(i:Nat)(f:X.N.Nodup)(hi:X.N[i]?=some x:=by rfl)(hx:Loc X.env.scope x:=by first|exact Or.inl rfl|exact Or.inr rfl)(hf:X.fn x=true∨X.env.scope.names.lookup x=some .local:=by first|exact .inl rfl|exact .inr rfl|assumption):PG X (.Name x pos) (d_ i):=CB f hi hx hf
theorem gc(i:Nat)(f:X.N.Nodup:=by exact of_decide_eq_true (by with_unfolding_all rfl))(hi:X.N[i]?=some x:=by rfl)(hx:Loc X.env.scope x:=by exact Or.inl rfl)(hf:X.fn x=true∨X.env.scope.names.lookup x=some .local:=by first|exact .inl rfl|exact .inr rfl|assumption):PG X (.Name x pos) (d_ i):=CB f hi hx hf
theorem a1(f:PE X a ta)(g:aB [a] X.env=(false,eval a X.env)::aB [] X.env:=by rfl):PA X [a] (ay ta bS):=cj f eN g
theorem a2(g:PE X a ta)(h:PE X b tb)(i:aB [a,b] X.env=(false,eval a X.env)::aB [b] X.env:=by rfl)(f:aB [b] X.env=(false,eval b X.env)::aB [] X.env:=by rfl):PA X [a,b] (ay ta (ay tb bS)):=cj g (cj h eN f) i
theorem a3{c:Expr}{h:TE}(i:PE X a ta)(j:PE X b tb)(l:PE X c h)(n:aB [a,b,c] X.env=(false,eval a X.env)::aB [b,c] X.env:=by rfl)(f:aB [b,c] X.env=(false,eval b X.env)::aB [c] X.env:=by rfl)(g:aB [c] X.env=(false,eval c X.env)::aB [] X.env:=by rfl):PA X [a,b,c] (ay ta (ay tb (ay h bS))):=cj i (a2 j l f g) n
variable{elt iter tg:Expr}{ifs:List Expr}{scope:Scope}{fi:List Nat}{wi:TI}{g:TG}{tc:TT}
theorem qc(hi:PI X tg iter wi)(q:Ae k g)
  (h:∀C l f j ex n,PG (dY X (HZ tg++fi.map fun i=>X.N.getD i "") scope C l f j ex n) tg g/\IJ (dY X (HZ tg++fi.map fun i=>X.N.getD i "") scope C l f j ex n) ifs tc/\PE (dY X (HZ tg++fi.map fun i=>X.N.getD i "") scope C l f j ex n) elt te)
  (r:mh X.env.scope scope k (HZ tg++fi.map fun i=>X.N.getD i "") X.N fi=true:=by with_unfolding_all rfl) (s:X.calm=true:=by rfl)
  (u:∀x,vA iter X.env x=pure x:=by intro _;rfl):PE X (.ListComp elt [⟨tg,iter,ifs,0⟩] scope pos) (dR k fi wi g tc te) :=
 Hl r s hi (fun _ _ _ _ _ _=>(h _ _ _ _ _ _).1) q (fun _ _ _ _ _ _=>(h _ _ _ _ _ _).2.1) (fun _ _ _ _ _ _=>(h _ _ _ _ _ _).2.2) u
theorem Kv(j:Nat){y:Str}{n u:Pos}(v:X.N.Nodup)(hi:PI X tg iter wi)(w:Ae k g)
  (h:∀C q f l ex r,PG (dY X (HZ tg++fi.map fun i=>X.N.getD i "") scope C q f l ex r) tg g/\IJ (dY X (HZ tg++fi.map fun i=>X.N.getD i "") scope C q f l ex r) ifs tc/\PE (dY X (HZ tg++fi.map fun i=>X.N.getD i "") scope C q f l ex r) elt te)
  (z:X.N[j]?=some y:=by rfl) (B:Loc X.env.scope y:=by first|exact Or.inl rfl|exact Or.inr rfl)
  (D:mh X.env.scope scope k (HZ tg++fi.map fun i=>X.N.getD i "") X.N fi=true:=by with_unfolding_all rfl) (E:X.calm=true:=by rfl)
  (s:mz (.ListComp elt [⟨tg,iter,ifs,0⟩] scope pos) (some (.Name y u)) n.line X.env=pure true:=by rfl)
  (G:∀x,vA iter X.env x=pure x:=by intro _;rfl) (hf:X.fn y=true∨X.env.scope.names.lookup y=some .local:=by first|exact .inl rfl|exact .inr rfl|assumption) :
  PS X (.Assign [.Name y u] (.ListComp elt [⟨tg,iter,ifs,0⟩] scope pos) n) (aN (dR k fi wi g tc te) (d_ j)) :=
 Ba v z B D E hi (fun _ _ _ _ _ _=>(h _ _ _ _ _ _).1) w (fun _ _ _ _ _ _=>(h _ _ _ _ _ _).2.1) (fun _ _ _ _ _ _=>(h _ _ _ _ _ _).2.2) s G hf
end
end L2
end

section
set_option Elab.async false
set_option linter.all false
set_option maxRecDepth 100000
namespace L2
open PySem PySem.Spec PyProof.Rows
def KD(K:Za)(n:Nat)(t:yV):TG:=fun v σ H Q=>∃a xs,v=.ref a/\aA K H a xs/\xs.length=n/\t xs σ H Q
theorem Jn{X:Cx}{g:Pos}{f:List Expr}{k:Nat}{t:yV}{n:Nat}(w:X.calm=true)(h:KQ X f t)
  (x:(rc f X.env).length=n:=by rfl) (i:(rc f X.env).findIdx? (·.1)=none:=by rfl):PG X (.Tuple f k g) (KD X.K n t):=by
 intro p s σ H v u Q I r j;obtain⟨a,xs,y,z,B,j⟩:=j;subst y;cases r;obtain⟨l,q,C,G⟩:=I.list z;have m:l.toArray.size=n:=by rw[b_,<-q.length,B]
 rw[assign_Tuple];refine ar (q_ ?_);unfold unpack;rw[i,x,<-m];refine ar (kW (PySem.W.kun_itemsOf (I.ok.hd w) C.isList fun D hx=>?_));have E:Inv X p σ H { s with heap:=D }:=I.kept (t':=s.toks) fun b o e=>hx b o (cw (aQ e)) e;exact h p _ σ H xs _ Q E (by simpa using q) j
theorem mF:∀(k:Nat) (a:Zb),bg (a.map V.str) (strsFrom k a)
 |_,[]=>.nil
 |k,y::a=>.cons ⟨_,rfl⟩ (mF (k+1) a)
def ng:V->List V->Hp->VK->Prop:=fun x vs H Q=>∃z y,x=.str z/\vs=[.str y]/\(y.length==0)=false/\z.length<=ao/\(bE z y).length<=ao/\∀l,H l=none->Q (.ref l) (upd H l (.lst ((bE z y).map V.str)))
theorem jN{X:Cx}:JW X "str.split" ng:=by
 intro m s σ H x C v D Q I n p h;obtain⟨z,y,rfl,rfl,l,r,a,q⟩:=h;obtain⟨t,rfl⟩:=n;obtain⟨u,rfl,w⟩:=p.one;obtain⟨k,rfl⟩:=w;have itself:bE z y=[z]->EP X m σ Q (.ref s.heap.objs.size) { s with heap:=s.heap.push { cls:=.type "list",data:=.seq #[.str z t] } }:=fun e=>by
  have f:=q s.heap.objs.size (I.hok.fresh (aG _));rw[e]at f a;refine⟨.ref s.heap.objs.size,_,I.laid (t':=s.toks) (o:=.lst ([z].map V.str)) (fun b B e=>bh _ e) (aG _) ⟨a,[.str z t],0,.cons ⟨_,rfl⟩ .nil,dJ _ rfl⟩,rfl,f⟩
 by_cases g:(decide (z.length<y.length) || decide (wA z<wA y))=true
 ·exact k7 F.slot_str_split rfl F.entry_str_split (F.args_str_split_2 _ _) (meets_str_split_cannot_occur z y t k g) (itself (by unfold bE;rw[if_pos g]))
 ·have i:(decide (z.length<y.length) || decide (wA z<wA y))=false:=by simpa using g
  cases j:(vz z y 0 z.length (z.length+1)).isEmpty with
  |true=>exact k7 F.slot_str_split rfl F.entry_str_split (F.args_str_split_2 _ _) (meets_str_split_not_found z y t k i l j) (itself (by unfold bE;rw[if_neg g,if_pos j]))
  |false =>
   have e:bE z y=cT.Str.partsBetween z (vz z y 0 z.length (z.length+1)) y.length:=by
    unfold bE;rw[if_neg g,if_neg (by rw[j];decide)]
   have f:=q s.heap.objs.size (I.hok.fresh (aG _));rw[e]at f a;refine k7 F.slot_str_split rfl F.entry_str_split (F.args_str_split_2 _ _) (meets_str_split_sep z y t k i l j r a) ?_;exact⟨.ref s.heap.objs.size,_,I.laid (o:=.lst (_:List V)) (fun b B e=>bh _ e) (aG _) ⟨by rw[aq];exact a,_,0,mF _ _,dJ _ rfl⟩,rfl,f⟩
end L2
end

section
set_option Elab.async false
set_option linter.all false
set_option maxRecDepth 100000
set_option maxHeartbeats 1000000
open PySem PySem.Spec PyProof.Rows
namespace L2
theorem vP{M:Model}{G:PySem.Ctx}{p:Pos}{t:Sem PySem.Fin}{fs:List Frame}{s a:Shared}{e:End}(h:Runs M G p t fs s e a):s.toks<=a.toks:=by
 induction h
 all_goals first
  |exact aG _
  |assumption
  |exact aP (hV _) (by assumption)
  |exact aP (by assumption) (by assumption)
theorem Au{M:Model}{G:PySem.Ctx}{p:Pos}{g:Nat}{r:Resume}{s i:Shared}{a:GenResult}(h:Wakes M G p g r s a i):s.toks<=i.toks:=by
 unfold Wakes at h
 repeat' split at h
 all_goals first
  |exact h.elim
  | (obtain⟨e,l,j,_,_,f⟩:=h;have k:=vP j;subst f;exact k)
  | (obtain⟨_,f⟩:=h;subst f;exact aG _)
theorem GP{α:Type}{M:Model}{G:PySem.Ctx}:∀(t:Sem α) {Q:α->Pos->Shared->Prop}{E:Value->Pos->Shared->Prop}{p:Pos}{s:Shared},Sem.wp M G t Q E p s->Sem.wp M G t (fun a i g=>s.toks<=g.toks/\Q a i g) (fun e i g=>s.toks<=g.toks/\E e i g) p s:=by
 have up:∀(t:Sem α) {Q:α->Pos->Shared->Prop}{E:Value->Pos->Shared->Prop}{p:Pos}{s:Shared}{n m:Nat},n<=m->Sem.wp M G t (fun a i g=>m<=g.toks/\Q a i g) (fun e i g=>m<=g.toks/\E e i g) p s->Sem.wp M G t (fun a i g=>n<=g.toks/\Q a i g) (fun e i g=>n<=g.toks/\E e i g) p s:=fun t Q E p s n m h w=>Sem.wp_mono M G t (fun _ _ _ x=>⟨aP h x.1,x.2⟩) (fun _ _ _ x=>⟨aP h x.1,x.2⟩) p s w;intro t
 induction t<;>intro Q E p s h
 case pure=>exact⟨aG _,h⟩
 case raise=>exact⟨aG _,h⟩
 case unsupported=>exact h
 case finish=>exact h
 case rule f=>exact f _ h
 case «at» f=>exact f _ h
 case load f=>obtain⟨o,j,k⟩:=h;exact⟨o,j,f _ k⟩
 case update f=>exact⟨h.1,f _ h.2⟩
 case alloc f=>exact f _ h
 case loadIfAlive f=>exact f _ h
 case point f=>exact f _ h
 case register=>exact h
 case fresh f=>exact up _ (hV _) (f _ h)
 case ask f=>exact f _ h
 case choose f=>exact⟨h.1,f _ h.2⟩
 case os f=>exact f _ h
 case call f=>obtain⟨r,l,j,k⟩:=h;exact⟨r,l,j,up _ (vP j) (f _ k)⟩
 case handled f=>exact f _ h
 case newGen f=>exact f _ h
 case genState f=>obtain⟨o,j,k⟩:=h;exact⟨o,j,f _ k⟩
 case resume f=>obtain⟨r,l,j,k⟩:=h;exact⟨r,l,j,up _ (Au j) (f _ k)⟩
 case yield=>exact h
 case stack f=>exact f _ h
 case fork=>exact h
 case thread f=>exact f _ h
 case await=>exact h
theorem Ad{α:Type}{M:Model}{A:Around}{t:Sem α}{Q:α->Shared->Prop}{E:Zc}{s:Shared}(h:wpAny M A t Q E s):wpAny M A t (fun a f=>s.toks<=f.toks/\Q a f) E s :=
 dF (Q:=fun a f=>s.toks<=f.toks/\Q a f) (E:=fun e f=>s.toks<=f.toks/\E e f) (fun G p i=>GP t (h G p i)) (fun _ _ x=>x) (fun _ _ x=>x.2)
section
variable{X:Cx}
def PEp(X:Cx)(e:Expr)(t:TE):Prop :=
 ∀(J6:Zd) (s:Shared) (σ:St) (H:Hp) (Q:VK),Inv X J6 σ H s->0<s.toks->t σ H Q->wpAny (model X.prog X.w) X.A (eval e X.env) (EP X J6 σ Q) X.xe s
def Lc(X:Cx)(es:List Expr)(t:TA):Prop :=
 ∀(pos:Pos) (J6:Zd) (s:Shared) (σ:St) (H:Hp) (Q:List V->Hp->Prop),Inv X J6 σ H s->0<s.toks->t σ H Q->wpAny (model X.prog X.w) X.A (vC (backTo pos (aB es X.env))) (AP X J6 σ Q) X.xe s
theorem iQ{e:Expr}{a:List Expr}{j:TE}{t:TA}(l:PE X e j)(m:Lc X a t)(n:aB (e::a) X.env=(false,eval e X.env)::aB a X.env:=by rfl):Lc X (e::a) (ay j t):=by
 intro f k s σ H Q I z h;rw[n];show wpAny _ _ (vC ((false,eval e X.env)::backTo f (aB a X.env))) _ _ s;refine lh (cA (Ad (l k s σ H _ I h)) fun u o g=>?_);obtain⟨p,x,q,r,v,w⟩:=g;exact cA (m f k o σ q _ r (ft z p) w) fun E G i=>by obtain⟨xs,y,B,C,D⟩:=i;exact⟨x::xs,y,B,.cons v C,D⟩
theorem FG{e:Expr}{i:TE}(k:PEp X e i)(l:aB [e] X.env=(false,eval e X.env)::aB [] X.env:=by rfl):Lc X [e] (ay i bS):=by
 intro a j s σ H Q I z h;rw[l];show wpAny _ _ (vC ((false,eval e X.env)::backTo a (aB [] X.env))) _ _ s;refine lh (cA (k j s σ H _ I z h) fun u m f=>?_);obtain⟨x,n,o,p,q⟩:=f;exact cA (eN a j m σ n _ o q) fun y B g=>by obtain⟨xs,r,t,v,w⟩:=g;exact⟨x::xs,r,t,.cons p v,w⟩
theorem Hm{x:Str}{j:Nat}{p:Pos}{a:List Expr}{t:TA}(g:Lc X a t)(i:aB (.Constant (.str x) j p::a) X.env=(false,eval (.Constant (.str x) j p) X.env)::aB a X.env:=by rfl):PA X (.Constant (.str x) j p::a) (ay (tC (.str x)) t):=by
 intro e k s σ H Q I h;rw[i];show wpAny _ _ (vC ((false,eval (.Constant (.str x) j p) X.env)::backTo e (aB a X.env))) _ _ s;refine lh (B4 ?_);exact cA (g e k _ σ H _ (I.tok _) (Nat.succ_pos _) h) fun q r f=>by obtain⟨xs,l,m,n,o⟩:=f;exact⟨.str x::xs,l,m,.cons ⟨_,rfl⟩ n,o⟩
def Ic(to:TE)(a b:Str):TE:=fun σ H Q=>to σ H fun x H1=>∃z,x=.str z/\z.length+(z.length+1) * b.length<=16777216/\Q (.str (g9 z a b)) H1
theorem Fy{o:Expr}{to:TE}{a b:Str}{m n:Nat}{p q C r:Pos}(u:(a==b)=false)(L:PE X o to)
  (f:sO o "replace" X.env (eval o X.env)=eval o X.env:=by rfl)
  (j:((backTo r (aB [.Constant (.str a) m p,.Constant (.str b) n q] X.env)).all (fun x=>!x.1) && (mW r (mV [] X.env)).all (fun x=>x.1.isSome)
   && decide ([Expr.Constant (.str a) m p,.Constant (.str b) n q].length+([]:List pJ).length+(if([]:List pJ).isEmpty then 0 else 1)<30))=true:=by rfl)
  (g:(C.endLine==r.line)=true:=by rfl) :
  PEp X (.Call (.Attribute o "replace" C) [.Constant (.str a) m p,.Constant (.str b) n q] [] r) (Ic to a b):=by
 intro M s σ H Q I z h;refine wpAny_Call_method_late f j g rfl (cA (Ad (L M s σ H _ I h)) fun v l w=>?_);obtain⟨N,x,D,y,E,e,rfl,O,i⟩:=w;obtain⟨B,G⟩:=Aw (T:="str") y E rfl;obtain⟨t,rfl⟩:=E;have U:0<l.toks:=ft z N;refine⟨"str","str.replace",iD,PySem.F.slot_str_replace,PySem.F.type_str_replace,B,G,?_⟩;refine wT rfl (Calls.evalArgs_plain ?_);refine lh (B4 (k:=m) (pos:=p) ?_);refine lh (B4 (k:=n) (pos:=q) ?_);refine Calls.spliced_nil ?_;have Y:cT.Str.tooLong (e.length+(vz e a 0 e.length (e.length+1)).length * b.length)=false:=by
  have B:=StrLaws.occ_length_le e a 0 e.length (e.length+1);have G:(vz e a 0 e.length (e.length+1)).length * b.length<=(e.length+1) * b.length:=Nat.mul_le_mul_right _ B;unfold cT.Str.tooLong;rw[vy];exact zzr0 (by omega)
 refine call_gives F.slot_str_replace (wU _ _ _) F.entry_str_replace (F.args_str_replace_3 _ _ _)
  (gives_str_replace e a b t l.toks (l.toks+1) fun _=>⟨by have e1:(l.toks==0)=false:=beq_eq_false_iff_ne.2 (by omega);have e2:(l.toks+1==0)=false:=beq_eq_false_iff_ne.2 (by omega);rw[e1,e2];rfl,beq_eq_false_iff_ne.2 (fun z=>absurd z (cw (Nat.lt_succ_self _))),u,Y⟩) ?_
 unfold g9 at i;cases J:((vz e a 0 e.length (e.length+1)).isEmpty || (a.length==0 && b.length==0))
 ·rw[J]at i;simp only[tf,if_false]at i ⊢;exact⟨fits_replaced a O,⟨.str _,D,y.tok _,⟨_,rfl⟩,i⟩⟩
 ·rw[J]at i;simp only[if_true]at i ⊢;exact⟨.str _,D,y.tok _,⟨_,rfl⟩,i⟩
end
end L2
end
set_option Elab.async false
set_option linter.all false
set_option maxRecDepth 100000
set_option maxHeartbeats 4000000
namespace Mum
open PySem PySem.Spec PyProof.Rows L2
def xh(K:Za):TS :=
 au (cu (bc (aI rGeI V0 (aI Ii (tC (.int 10)) (tC (.int 18))))) (bf V0) (br))
 (au (aN (aI ji (aI eM (aI eM (aI lr (aI ji V0 (tC (.int 1000000007))) (tC (.int 69069))) (aI lr V1 (tC (.int 40503)))) (tC (.int 977))) (tC (.int 2147483629))) U2)
 (au (aN (aI ji (aI eM (aI eM (aI lr V2 V2) (aI lr V1 (tC (.int 7919)))) (aI ji V0 (tC (.int 65537)))) (tC (.int 2147483587))) U3)
 (au (aN (aI ji (aI eM (aI eM (aI lr V3 V3) (aI lr V2 (tC (.int 31)))) (tC (.int 5))) (tC (.int 2147483563))) U4)
 (bf (aI eM (aI lr (aI eM (aI lr V2 (tC (.int 2147483659))) V3) (tC (.int 2147483693))) V4)))))
def yM:List Str:=["cell","at","one","two","three"]
def AF(K:Za):TS :=
 au (aN (du (fU K) (aF (nN (jb K) V0 (bM) (cE (tC (.int 12)))))) U1)
 (au (gk (lI K (aF (nN (jb K) V0 (cE (tC (.int 12))) (cE (tC (.int 63)))))) (iT K 2 (bt U2 (bt U3 (io)))) (aN (aI eM (aI (cy K) V1 (aI ji V2 (tC (.int 12)))) V3) (ux V1 (aI ji V2 (tC (.int 12))) lq)))
 (bf (eJ (fu V1 (tC (.int 0)) (tC (.int 0))))))
def BM:List Str:=["script","cells","k","cell"]
def AG(K:Za):TS :=
 au (aN (tC (.int 0)) (ux V0 (tC (.int 2)) lq))
 (bf V0)
def BN:List Str:=["pen"]
def AD(K:Za)(sp_law_spread:Sp):TS :=
 au (cu (bc (aI A9 (aI (cy K) V0 (tC (.int 2))) V1)) (au (aN (aI (cy K) V0 (tC (.int 1))) U2)
 (au (aN (tC (.int 0)) U3)
 (au (cu (bc (aI A9 V2 (du (cD K) (aF (aI (cy K) V0 (tC (.int 0))))))) (aN (aI (cy K) (aI (cy K) V0 (tC (.int 0))) V2) U3) (cu (bc (aI DC (du (cD K) (aF (aI (cy K) V0 (tC (.int 0))))) (tC (.int 0)))) (aN (aI ji (aI (cy K) (aI (cy K) V0 (tC (.int 0))) (aI ji (aI eM (aI lr V2 (tC (.int 5))) (tC (.int 3))) (du (cD K) (aF (aI (cy K) V0 (tC (.int 0))))))) (aI eM (aI Ii (tC (.int 10)) (tC (.int 17))) V2)) U3) (br)))
 (au (aN (aI eM V2 (tC (.int 1))) (ux V0 (tC (.int 1)) lq))
 (aN (aW sp_law_spread (ba V3 V2)) (ux V0 (tC (.int 2)) lq)))))) (br))
 (au (aN (aI ji (aI (cy K) V0 (tC (.int 2))) V1) U4)
 (au (aN (aI Fn (aI (cy K) V0 (tC (.int 2))) V1) (ux V0 (tC (.int 2)) lq))
 (bf V4)))
def BL:List Str:=["pen","many","at","cell","found"]
def zf(K:Za)(sp_law_take:Sp):TS :=
 au (aN (tC (.str "abcdefghijklmnopqrstuvwxyz")) U2)
 (au (aN (pf K "str" (vT K) (tC (.str "")) (ay (dR 1 [2,0] (rG (aF (tC (.int 7)))) U0 (jx) (aI xL V1 (aW sp_law_take (ba V2 (tC (.int 26)))))) bS)) U3)
 (au (aN (aW sp_law_take (ba V0 (tC (.int 3)))) U4)
 (au (aN (aW sp_law_take (ba V0 (tC (.int 26)))) U5)
 (au (aN (aW sp_law_take (ba V0 (tC (.int 8)))) U6)
 (au (aN (eJ (bS)) U7)
 (au (gk (rG (aF V1)) U8 (au (aN (aI xL V2 (aI ji (aI eM V5 (aI lr (tC (.int 3)) V8)) (tC (.int 26)))) U9)
 (au (aN (nN xK V3 (bM) (cE (aI ji (aI eM V6 (aI lr V8 (aI ji V4 (tC (.int 2))))) (tC (.int 8))))) U10)
 (au (aN (aI (cy K) (eJ (fu (tC (.int 0)) (du (cD K) (aF Kc)) (aI Fn (du (cD K) (aF Kc)) (tC (.int 2))))) V4) U11)
 (dB (pf K "list" fV V7 (aF (aI fL (aI fL (nN xK Kc (bM) (cE Lb)) V9) (nN xK Kc (cE Lb) (bM))))))))))
 (bf V7)))))))
def Aj:List Str:=["pen","many","letters","base","way","turn","size","found","k","sign","part","at"]
def Dm(K:Za):TS :=
 cu (bc (aI (oO K true) V1 V0)) (dB (pf K "list" fV V0 (aF V1))) (br)
def Eg:List Str:=["doors","door"]
def pU(K:Za)(sp_law_take:Sp)(sp_law_put:Sp):TS :=
 au (aN (eJ (bS)) U5)
 (au (aN (aW sp_law_take (ba V0 (tC (.int 2)))) U6)
 (au (gk (lI K (aF V3)) (iT K 2 (bt U7 (bt U8 (io)))) (au (gk (rG (ay (aI (cy K) (eJ (ay (tC (.int 0)) (fu (tC (.int 1)) (tC (.int 1)) (tC (.int 2))))) (aW sp_law_take (ba V0 (tC (.int 4))))) bS)) U9 (au (aN (d7 (ay (tC (.str "say")) (ay (aI (cy K) V2 (aW sp_law_take (ba V0 (du (cD K) (aF V2))))) bS))) U10)
 (dB (aW sp_law_put (ay V5 (ay (d7 (ay V8 (ay Kc (ay (aI (cy K) V3 (aW sp_law_take (ba V0 (du (cD K) (aF V3))))) bS)))) bS))))))
 (au (gk (dS K V1) U11 (gk (rG (ay (aI (cy K) (eJ (ay V4 (fu (tC (.int 1)) (tC (.int 1)) (tC (.int 2))))) (aW sp_law_take (ba V0 (tC (.int 4))))) bS)) U9 (dB (aW sp_law_put (ay V5 (ay (d7 (ay V8 (ay (d7 (ba (tC (.str "ask")) Lb)) (ay (aI (cy K) V3 (aW sp_law_take (ba V0 (du (cD K) (aF V3))))) bS)))) bS))))))
 (au (aN (aI (cy K) (eJ (ay (nN (jb K) V3 (cE (aI eM V7 (tC (.int 1)))) (bM)) (aF (nN (jb K) V3 (bM) (cE V7))))) V6) U12)
 (cu (xB (bc (aI (Hc K) La (eJ (bS)))) (bc (aI mw (aW sp_law_take (ba V0 (tC (.int 3)))) (tC (.int 0))))) (dB (aW sp_law_put (ay V5 (ay (d7 (ay V8 (ay (d7 (aF (tC (.str "still")))) (ay (aI (DB K) La (aW sp_law_take (ba V0 (du (cD K) (aF La))))) bS)))) bS)))) (br))))))
 (bf V5)))
def qK:List Str:=["pen","asks","says","rooms","full","doors","down","k","room","turn","sign","ask","later"]
def zg(K:Za)(sp_law_draw_doors:Sp)(sp_law_names:Sp)(sp_law_take:Sp)(sp_law_anew:Sp):TS :=
 au (dB (aW sp_law_anew (aF V0)))
 (au (aN (aW sp_law_names (ba V0 (tC (.int 8)))) U3)
 (au (aN (nN (jb K) V3 (bM) (cE (aI eM (tC (.int 1)) (aI (cy K) (eJ (ay (tC (.int 0)) (ay (tC (.int 1)) (ay (tC (.int 1)) (fu (tC (.int 2)) (tC (.int 2)) (tC (.int 3))))))) (aW sp_law_take (ba V0 (tC (.int 6)))))))) U4)
 (au (aN (nN (jb K) V3 (cE (tC (.int 4))) (cE (aI eM (tC (.int 5)) (aI (cy K) (eJ (ay (tC (.int 0)) (ay (tC (.int 1)) (ay (tC (.int 1)) (fu (tC (.int 2)) (tC (.int 2)) (tC (.int 3))))))) (aW sp_law_take (ba V0 (tC (.int 6)))))))) U5)
 (au (aN (aW sp_law_names (ba V0 (aI eM (tC (.int 1)) (aW sp_law_take (ay V0 (aF V1)))))) U6)
 (au (aN (aW sp_law_draw_doors (ay V0 (ay V4 (fu V5 V6 V2)))) U7)
 (bf (d7 (ay V4 (fu V5 V6 V7)))))))))
def Ak:List Str:=["pen","most","full","words","asks","says","rooms","doors"]
def Do(K:Za):TS :=
 bf (iK (aI Hd V0 (tC (.str ""))) (iK (aI Jf (du (cD K) (aF V0)) (tC (.int 8))) (du (DE K) (aF (dR 1 [] (Jy V0) U0 (jx) (aI Ku V0 (tC (.str "abcdefghijklmnopqrstuvwxyz"))))))))
def Ei:List Str:=["text"]
def Dt(K:Za):TS :=
 au (aN (xA) U1)
 (au (gk (dS K V0) U2 (tW V1 V2 (tC (.bl true))))
 (bf V1))
def Em:List Str:=["things","keys","thing"]
def m8(K:Za)(sp_is_name:Sp)(sp_as_keys:Sp):TS :=
 au (cu (bc (aI mw (du (cD K) (aF V0)) (tC (.int 0)))) (bf (tC (.int 0))) (br))
 (au (aN (aW sp_as_keys (aF V2)) U3)
 (au (gk (lI K (aF V0)) (iT K 2 (bt U4 (bt U5 (io)))) (au (cu (Du (bc (aI mw V4 V1)) (Du (tB (EN K V5 V3)) (xm (tB (aW sp_is_name (aF V5)))))) (bf V4) (br))
 (tW V3 V5 (tC (.bl true)))))
 (bf (tC .non))))
def nF:List Str:=["names","most","taken","ahead","number","name"]
def xk(K:Za)(a_STILL:Addr):TS :=
 bf (aI DD (aI DD (dR 1 [] (dS K V0) U0 (jx) (d7 (ba (tC (.str "ask")) V0))) (dR 1 [] (dS K V1) U0 (jx) (d7 (ba (tC (.str "say")) V0)))) (eJ (aF (tC (.ref a_STILL)))))
def yN:List Str:=["asks","says"]
def m9(K:Za)(sp_as_keys:Sp):TS :=
 au (aN (aW sp_as_keys (aF V1)) U3)
 (au (aN (xz) U4)
 (au (gk (lI K (aF V0)) (iT K 2 (bt U5 (bt U6 (io)))) (au (cu (Du (bc (aI mw V5 (tC (.int 2000)))) (tB (EN K V6 V4))) (bf V5) (br))
 (au (cu (Du (tB (su K (aI (DB K) V6 (tC (.int 0))) V3)) (Du (bc (aI (oO K true) (aI (DB K) V6 (tC (.int 1))) V2)) (tB (su K (aI (DB K) V6 (tC (.int 2))) V3)))) (bf V5) (br))
 (tW V4 V6 (tC (.bl true))))))
 (bf (tC .non))))
def nG:List Str:=["doors","rooms","signs","own_rooms","ahead","number","door"]
def i_(K:Za):TS :=
 au (aN (xz) U1)
 (au (gk (dS K V0) (iT K 3 (bt U2 (bt U3 (bt U4 (io))))) (dB (pf K "list" fV (pf K "dict" Cw V1 (ba (d7 (ay V2 (aF V3))) (eJ (bS)))) (aF V4))))
 (bf V1))
def jc:List Str:=["doors","goals","start","sign","goal"]
def tG(K:Za)(a_STILL:Addr):TS :=
 au (aN (xA) U2)
 (au (aN (eJ (aF V1)) U3)
 (au (AH (bc (aI DC (du (cD K) (aF V3)) (tC (.int 0)))) (au (aN (Km K "list" Kt V3) U4)
 (gk (KC K (EO K V0 (d7 (ba V4 (tC (.ref a_STILL)))) (d7 (bS)))) U5 (cu (tB (su K V5 V2)) (au (tW V2 V5 (tC (.bl true)))
 (dB (pf K "list" fV V3 (aF V5)))) (br)))))
 (bf V2)))
def uO:List Str:=["goals","room","led","waiting","here","goal"]
def nZ(K:Za):TS :=
 au (gk (lI K (aF V0)) (iT K 2 (bt U2 (bt U3 (io)))) (cu (tB (EN K V3 (Cm K V1 V3))) (bf V2) (br)))
 (bf (tC .non))
def pd:List Str:=["rooms","led","number","room"]
def Ag:List Str:=["part","number"]
def w_(K:Za)(sp_need_none:Sp)(sp_first_wrong_door:Sp)(sp_door_signs:Sp)(sp_first_wrong_name:Sp):TS :=
 au (dB (aW sp_need_none (ba (tC (.str "asks")) (aW sp_first_wrong_name (fu V0 (tC (.int 4)) (eJ (bS)))))))
 (au (dB (aW sp_need_none (ba (tC (.str "says")) (aW sp_first_wrong_name (fu V1 (tC (.int 4)) V0)))))
 (au (dB (aW sp_need_none (ba (tC (.str "rooms")) (aW sp_first_wrong_name (fu V2 (tC (.int 150)) (eJ (bS)))))))
 (dB (aW sp_need_none (ay (tC (.str "doors")) (aF (aW sp_first_wrong_door (fu V3 V2 (aW sp_door_signs (ba V0 V1))))))))))
def yL:List Str:=["asks","says","rooms","doors"]
def pY(K:Za):TS :=
 au (aN (xA) U2)
 (au (gk (dS K V0) U3 (tW V2 V3 (eJ (bS))))
 (au (gk (dS K V1) U4 (dB (pf K "list" fV (Cm K V2 (aI (DB K) V4 (tC (.int 0)))) (aF V4))))
 (bf V2)))
def qP:List Str:=["rooms","doors","leaving","room","door"]
def pX(K:Za):TS :=
 bf (du (DE K) (ay (dR 1 [] (dS K V0) U0 (jx) (aI mw (aI (DB K) (aI (DB K) V0 (tC (.int 1))) (tC (.int 0))) (tC (.str "ask")))) bS))
def qO:List Str:=["doors"]
def iI(K:Za)(sp_need_none:Sp)(sp_first_led_round:Sp)(sp_led_by_still:Sp)(sp_goals_by_start_and_sign:Sp)(sp_as_keys:Sp)(sp_has_asks_alone:Sp)(sp_doors_by_start:Sp)(sp_need_parts:Sp):TS :=
 au (dB (aW sp_need_parts (ay V1 (fu V2 V3 V4))))
 (au (xH K V0 (du (fU K) (aF V1)) "own_asks")
 (au (xH K V0 (du (fU K) (aF V2)) "own_says")
 (au (xH K V0 (du (fU K) (aF V3)) "own_rooms")
 (au (xH K V0 (du (fU K) (aF V4)) "own_doors")
 (au (xH K V0 (aW sp_doors_by_start (ba V3 V4)) "leaving")
 (au (xH K V0 (aW sp_as_keys (ay (dR 1 [0] (dS K V3) U0 (tB (aW sp_has_asks_alone (aF (Cm K (zh K V1 "leaving") V0)))) V0) bS)) "quiet")
 (au (xH K V0 (aW sp_goals_by_start_and_sign (aF V4)) "sign_goals")
 (au (xH K V0 (du (He K) (ay (dR 1 [0] (dS K V3) U0 (jx) (d7 (ba V0 (aW sp_led_by_still (ay (zh K V1 "sign_goals") (aF V0)))))) bS)) "still_led")
 (dB (aW sp_need_none (ba (tC (.str "still")) (aW sp_first_led_round (ay V3 (aF (zh K V0 "still_led")))))))))))))))
def iW:List Str:=["self","asks","says","rooms","doors"]
def cV(p:Addr)(H H':Hp):Prop:=∀b o,H b=some o->b≠p->H' b=some o
theorem cV.refl(p:Addr)(H:Hp):cV p H H:=fun _ _ h _=>h
theorem cV.trans{p:Addr}{H e f:Hp}(a:cV p H e)(b:cV p e f):cV p H f:=fun c o h n=>b c o (a c o h n) n
theorem ae.exB{p:Addr}{H e:Hp}(a:ae H e):cV p H e:=fun b o h _=>a b o h
theorem cV.upd(p:Addr)(H:Hp)(o:HO):cV p H (upd H p o):=fun b u h n=>by rw[am n];exact h
theorem ae.new{H:Hp}{a:Addr}{o:HO}(h:H a=none):ae H (upd H a o):=fun b u e=>by rw[am (ah e h)];exact e
theorem cV.free{p:Addr}{H a:Hp}(e:cV p H a){u:HO}(f:a p=some u){l:Addr}(h:a l=none):H l=none:=by
 cases q:H l with
 |none=>rfl
 |some o =>
  by_cases z:l=p
  ·subst z;rw[f]at h;cases h
  ·rw[e l o q z]at h;cases h
theorem kp{H:Hp}{a b:Addr}{o x:HO}(h:H b=some o)(n:H a=none):upd H a x b=some o:=by rw[am (ah h n)];exact h
structure C6(H:Hp)(p c:Addr)(at_ rest:Int)(ns:List Int):Prop where
 pen:H p=some (.lst [.ref c,.int at_,.int rest])
 cells:H c=some (.lst (ns.map V.int))
 at0:0<=at_
 rest0:0<=rest
theorem C6.ne{H:Hp}{p c:Addr}{a r:Int}{g:List Int}(h:C6 H p c a r g):c≠p:=by
 intro e;have i:=h.pen;have f:=h.cells;rw[e,i]at f;injection f with f;injection f with f;cases g with
 |nil=>cases f
 |cons n g=>injection f with f;cases f
def fA(H:Hp)(p c:Addr):Prop:=∃a r ns,C6 H p c a r ns
theorem fA.ex{H H':Hp}{p c:Addr}(h:fA H p c)(e:ae H H'):fA H' p c:=by
 obtain⟨a,r,f,g,i,j,k⟩:=h;exact⟨a,r,f,e _ _ g,e _ _ i,j,k⟩
theorem fA.pen{H:Hp}{p c:Addr}(h:fA H p c):∃o,H p=some o:=by
 obtain⟨a,r,f,e,_⟩:=h;exact⟨_,e⟩
theorem fA.cell{H:Hp}{p c:Addr}(h:fA H p c):∃o,H c=some o:=by
 obtain⟨a,r,f,_,e,_⟩:=h;exact⟨_,e⟩
theorem fA.upd{H:Hp}{p c l:Addr}{o:HO}(h:fA H p c)(e:p≠l)(f:c≠l):fA (upd H l o) p c:=by
 obtain⟨a,r,g,i,j,k,m⟩:=h;exact⟨a,r,g,by rw[am e];exact i,by rw[am f];exact j,k,m⟩
theorem fA.nep{H:Hp}{p c l:Addr}(h:fA H p c)(a:H l=none):p≠l:=let⟨_,e⟩:=h.pen;ah e a
theorem fA.nec{H:Hp}{p c l:Addr}(h:fA H p c)(a:H l=none):c≠l:=let⟨_,e⟩:=h.cell;ah e a
theorem cV.new{p:Addr}{H:Hp}{a:Addr}{o:HO}(h:H a=none):cV p H (L2.upd H a o):=fun b u e _=>by rw[am (ah e h)];exact e
inductive lV (vs:List V)(H:Hp)(Q:VK)(E:XK):Prop
 |mk (c a:Int):(vs=[.int c,.int a])->(0<=a)->(∀r:Int,0<=r->Q (.int r) H)->lV  vs H Q E
theorem o9{i j:Int}(a:-(2 ^ 64)<j)(e:j<2 ^ 64):GD i j:=.inr ⟨a,e⟩
theorem Dy{K:Za}{f:List V}{H:Hp}{Q:VK}{E:XK}(h:lV f H Q E):xh K (bJ Q) (start yM f) H:=by
 obtain⟨c,a,rfl,x,k⟩:=h;refine⟨_,rfl,_,_,rfl,rfl,⟨by decide,by decide,by decide⟩,_,_,rfl,rfl,_,rfl,?_⟩;refine dz (fun h=>?_) (fun _=>?_)
 ·refine⟨_,rfl,k _ ?_⟩;have:=of_decide_eq_true h;have e:((10:Int) ^ (18:Int).toNat)=1000000000000000000:=by decide
  omega
 ·have one:∀z:Int,0<=z % 2147483629/\z % 2147483629<2147483629:=fun z=>⟨pA _ (by decide),pq _ (by decide)⟩;have two:∀z:Int,0<=z % 2147483587/\z % 2147483587<2147483587:=fun z=>⟨pA _ (by decide),pq _ (by decide)⟩;have three:∀z:Int,0<=z % 2147483563/\z % 2147483563<2147483563:=fun z=>⟨pA _ (by decide),pq _ (by decide)⟩;refine⟨_,rfl,_,_,rfl,rfl,(by show(0:Int)<1000000007;decide),_,_,rfl,rfl,o9 (by decide) (by decide),_,rfl,_,_,rfl,rfl,o9 (by decide) (by decide),_,_,rfl,rfl,_,_,rfl,rfl,_,_,rfl,rfl,(by show(0:Int)<2147483629;decide),?_⟩;generalize l:(c % 1000000007 * 69069+a * 40503+977)=g;obtain⟨m,n⟩:=one g;generalize g % 2147483629=o at m n ⊢;refine⟨_,rfl,_,rfl,_,_,rfl,rfl,o9 (by omega) (by omega),_,rfl,_,_,rfl,rfl,o9 (by decide) (by decide),_,_,rfl,rfl,_,rfl,_,_,rfl,rfl,(by show(0:Int)<65537;decide),_,_,rfl,rfl,_,_,rfl,rfl,(by show(0:Int)<2147483587;decide),?_⟩;generalize p:(o * o+a * 7919+c % 65537)=i;obtain⟨s,t⟩:=two i;generalize i % 2147483587=q at s t ⊢;refine⟨_,rfl,_,rfl,_,_,rfl,rfl,o9 (by omega) (by omega),_,rfl,_,_,rfl,rfl,o9 (by decide) (by decide),_,_,rfl,rfl,_,_,rfl,rfl,_,_,rfl,rfl,(by show(0:Int)<2147483563;decide),?_⟩;generalize u:(q * q+o * 31+5)=j;obtain⟨v,w⟩:=three j;generalize j % 2147483563=r at v w ⊢;refine⟨_,rfl,_,_,rfl,rfl,o9 (by decide) (by decide),_,rfl,_,_,rfl,rfl,_,_,rfl,rfl,o9 (by decide) (by decide),_,rfl,_,_,rfl,rfl,k _ ?_⟩;omega
def xF:Sp:=fun vs H Q _=>∃p c,vs=[.ref p]/\fA H p c/\∀H',fA H' p c->cV p H H'->Q (.ref p) H'
theorem Hb{K:Za}{e:List V}{H:Hp}{Q:VK}{E:XK}(h:xF e H Q E):AG K (bJ Q) (start BN e) H:=by
 obtain⟨p,c,rfl,⟨a,r,f,h⟩,k⟩:=h;refine⟨_,rfl,p,_,_,_,rfl,rfl,h.pen,rfl,_,rfl,k _ ⟨a,0,f,aa,?_,h.at0,Int.le_refl 0⟩ (cV.upd _ _ _)⟩;rw[am h.ne];exact h.cells
theorem C5{ns:List Int}{a:Int}(e:0<=a)(g:a<ns.length):∃z,yF (ns.map V.int) a=some (.int z):=by
 obtain⟨n,rfl⟩:=fO e;have f:n<ns.length:=by omega
 exact⟨ns[n],bW (by simp[f])⟩
inductive cY (vs:List V)(H:Hp)(Q:VK)(E:XK):Prop
 |mk (p c:Addr) (m:Int):(vs=[.ref p,.int m])->(fA H p c)->(0<m)->(m<1073741824)->(∀(r:Int) (H':Hp),0<=r->r<m->fA H' p c->cV p H H'->Q (.int r) H')->cY  vs H Q E
theorem cp{H:Hp}{Q:VK}{E:XK}{p c:Addr}{m:Int}(e:fA H p c)(f:0<m)(g:m<1073741824)(k:∀(r:Int) (a:Hp),0<=r->r<m->fA a p c->cV p H a->Q (.int r) a):cY [.ref p,.int m] H Q E:=by
 exact⟨p,c,m,rfl,e,f,g,k⟩
theorem G7{K:Za}{t:List V}{H:Hp}{Q:VK}{E:XK}(h:cY t H Q E):AD K lV (bJ Q) (start BL t) H:=by
 obtain⟨p,c,m,rfl,⟨a,r,ns,h⟩,j,l,k⟩:=h;have f:∀(H':Hp) (n u:Int) (x y:Option V),C6 H' p c n u ns->cV p H H' ->
   (au (aN (aI ji (aI (cy K) V0 (tC (.int 2))) V1) U4) (au (aN (aI Fn (aI (cy K) V0 (tC (.int 2))) V1) (ux V0 (tC (.int 2)) lq)) (bf V4)))
    (bJ Q) [some (.ref p),some (.int m),x,y,none] H':=by
  intro H' n u x y g ex;refine⟨_,rfl,p,_,2,_,rfl,rfl,aA.of g.pen,rfl,_,rfl,_,_,rfl,rfl,j,?_⟩;refine⟨_,rfl,p,_,2,_,rfl,rfl,aA.of g.pen,rfl,_,rfl,_,_,rfl,rfl,⟨j,l⟩,_,rfl,p,_,_,_,rfl,rfl,g.pen,rfl,?_⟩;refine⟨_,rfl,k _ _ (pA _ (by omega)) (pq _ j) ⟨n,_,ns,aa,?_,g.at0,Int.ediv_nonneg g.rest0 (by omega)⟩ (ex.trans (cV.upd _ _ _))⟩;rw[am g.ne];exact g.cells
 refine⟨_,rfl,p,_,2,_,rfl,rfl,aA.of h.pen,rfl,_,rfl,_,_,rfl,rfl,_,rfl,?_⟩;refine dz (fun C=>?_) (fun C=>?_)
 ·-- at=pen[1];cell=0;if at<len(pen[0])
  refine⟨_,rfl,p,_,1,_,rfl,rfl,aA.of h.pen,rfl,?_⟩;have o:(V.int ((ns.map V.int).length:Nat))=V.int (ns.length:Nat):=by rw[aq]
  refine⟨_,rfl,_,rfl,p,_,0,_,rfl,rfl,aA.of h.pen,rfl,.inl ⟨c,_,rfl,.inl (aA.of h.cells),_,_,rfl,o,_,rfl,?_⟩⟩;refine dz (fun v=>?_) (fun v=>?_)
  ·obtain⟨z,s⟩:=C5 (ns:=ns) h.at0 (of_decide_eq_true v);refine⟨_,rfl,p,_,0,_,rfl,rfl,aA.of h.pen,rfl,_,rfl,c,_,_,_,rfl,rfl,aA.of h.cells,s,?_⟩;refine⟨_,rfl,_,_,rfl,rfl,_,rfl,p,_,_,_,rfl,rfl,h.pen,rfl,?_⟩;refine⟨_,rfl,_,rfl,_,_,rfl,h.at0,fun q i=>⟨_,rfl,p,_,_,_,rfl,rfl,aa,rfl,?_⟩⟩;rw[ss];refine f _ (a+1) q _ _ ⟨aa,by rw[am h.ne];exact h.cells,by have:=h.at0;omega,i⟩ (cV.upd _ _ _)
  ·refine⟨_,rfl,p,_,0,_,rfl,rfl,aA.of h.pen,rfl,.inl ⟨c,_,rfl,.inl (aA.of h.cells),_,_,o,rfl,_,rfl,?_⟩⟩;refine dz (fun w=>?_) (fun w=>?_)
   ·have B:(0:Int)<ns.length:=of_decide_eq_true w;obtain⟨z,s⟩:=C5 (ns:=ns) (a:=(a * 5+3) % (ns.length:Int)) (pA _ (by omega)) (pq _ B);refine⟨_,rfl,p,_,0,_,rfl,rfl,aA.of h.pen,rfl,_,rfl,_,_,rfl,rfl,o9 (by decide) (by decide),_,_,rfl,rfl,_,rfl,p,_,0,_,rfl,rfl,aA.of h.pen,rfl,.inl ⟨c,_,rfl,.inl (aA.of h.cells),_,_,rfl,o,B,c,_,_,_,rfl,rfl,aA.of h.cells,s,?_⟩⟩;refine⟨_,_,rfl,rfl,⟨by decide,by decide,by decide⟩,_,rfl,_,_,rfl,rfl,_,_,rfl,rfl,?_,?_⟩
    ·have e:((10:Int) ^ (17:Int).toNat)=100000000000000000:=by decide
     have:=h.at0;show(0:Int)<10 ^ (17:Int).toNat+a;omega
    refine⟨_,rfl,_,_,rfl,rfl,_,rfl,p,_,_,_,rfl,rfl,h.pen,rfl,?_⟩;refine⟨_,rfl,_,rfl,_,_,rfl,h.at0,fun q i=>⟨_,rfl,p,_,_,_,rfl,rfl,aa,rfl,?_⟩⟩;rw[ss];refine f _ (a+1) q _ _ ⟨aa,by rw[am h.ne];exact h.cells,by have:=h.at0;omega,i⟩ (cV.upd _ _ _)
   ·refine⟨_,rfl,_,_,rfl,rfl,_,rfl,p,_,_,_,rfl,rfl,h.pen,rfl,?_⟩;refine⟨_,rfl,_,rfl,_,_,rfl,h.at0,fun q i=>⟨_,rfl,p,_,_,_,rfl,rfl,aa,rfl,?_⟩⟩;rw[ss];refine f _ (a+1) q _ _ ⟨aa,by rw[am h.ne];exact h.cells,by have:=h.at0;omega,i⟩ (cV.upd _ _ _)
 ·exact f H a r _ _ h (cV.refl _ _)
inductive sA(K:Za)(vs:List V)(H:Hp)(Q:VK)(E:XK):Prop
 |mk (a:Addr) (ns:List Int):(vs=[.ref a])->(aA K H a (ns.map V.int))->(ns.length<=63)->(∀(p c:Addr) (H':Hp),H p=none->fA H' p c->ae H H'->Q (.ref p) H')->sA K vs H Q E
theorem wg(a:List Int)(lo hi:Option Int):∃e:List Int,dq (a.map V.int) lo hi=e.map V.int/\e.length=(dq (a.map V.int) lo hi).length:=by
 refine⟨(a.drop (HT.sIx (a.map V.int).length 0 lo)).take (HT.sIx (a.map V.int).length (a.map V.int).length hi-HT.sIx (a.map V.int).length 0 lo),?_,?_⟩
 ·unfold dq;rw[jY,kS]
 ·unfold dq;rw[aL,aL,fc,fc,aq]
theorem G_{K:Za}{vs:List V}{H:Hp}{Q:VK}{E:XK}(h:sA K vs H Q E):AF K (bJ Q) (start BM vs) H:=by
 obtain⟨a,s,rfl,hs,hn,k⟩:=h;obtain⟨G,e0,l0⟩:=wg s none (some 12);obtain⟨C,e1,l1⟩:=wg s (some 12) (some 63);have I:C≠[]->G.length=12:=by
  intro M;have l:0<C.length:=by cases C with|nil=>exact absurd rfl M|cons _ _=>simp
  rw[l1]at l;rw[l0];unfold dq at l ⊢;rw[aL,fc,aq]at l;rw[aL,fc,aq];have s1:HT.sIx s.length 0 (some 12)=min 12 s.length:=HT.sIx_nat _ _ 12;have s2:HT.sIx s.length s.length (some 12)=min 12 s.length:=HT.sIx_nat _ _ 12;rw[HT.sIx_none,s2];rw[s1]at l;omega
 refine⟨_,rfl,_,rfl,a,_,rfl,hs,fun q hq=>.inl ⟨q,_,rfl,.inl (aA.of aa),fun c D=>?_⟩⟩;rw[e0]at D ⊢;have N:H c=none:=by
  have:c≠q:=fun z=>by subst z;rw[aa]at D;cases D
  rw[am this]at D;exact D
 have hS:ae H (upd (upd H q (.lst (G.map V.int))) c (.lst (G.map V.int))):=(ae.new hq).trans (ae.new D);refine⟨_,rfl,_,rfl,_,rfl,a,_,rfl,hS.seq hs,fun r O=>⟨r,rfl,⟨_,aA.of aa⟩,?_⟩⟩;rw[e1];have T:c≠r:=ah aa O
 let U:Nat->L2.St->Hp->Prop:=fun i σ w=>NE3 fun(j:List Int) (x y:Option V)=>NA5 (σ=[some (.ref a),some (.ref c),x,y]) (w c=some (.lst (j.map V.int))) (j.length=G.length) (w r=some (.lst (C.map V.int))) (ae H w)
 refine fz (xs:=C.map V.int) U
  ⟨G,none,none,rfl,kp aa O,rfl,aa,hS.trans (ae.new O)⟩ (fun i σ w _ zq=>by obtain⟨j,x,y,_,_,_,h,_⟩:=zq;exact aA.of h) ?_ ?_
 ·rintro i x σ w t hi ⟨j,u,v,rfl,f,J,L,m⟩ Y;have B:i<C.length:=by
   have:=(dg.mp hi).1;rwa[aq]at this
  have aj:=I (fun z=>by rw[z]at B;simp at B);obtain⟨z,rfl⟩:∃z,x=V.int z:=by
   rw[bD,ef B]at hi;exact⟨_,(d4 hi).symm⟩
  have g:upd w t (.tup [.int i,.int z]) c=some (.lst (j.map V.int)):=kp f Y;have n:(i:Int) % 12=((i % 12:Nat):Int):=by omega
  have ab:i % 12<j.length:=by omega
  refine⟨t,_,rfl,cq.of aa,rfl,_,_,rfl,_,_,rfl,rfl,?_⟩;have ai:yF (j.map V.int) ((i:Int) % 12)=some (.int j[i % 12]):=by rw[n];exact bW (by simp[ab])
  refine⟨_,rfl,_,rfl,_,_,rfl,rfl,(by show(0:Int)<12;decide),c,_,_,_,rfl,rfl,aA.of g,ai,_,rfl,_,_,rfl,rfl,_,rfl,_,rfl,_,_,rfl,rfl,(by show(0:Int)<12;decide),c,_,_,i % 12,rfl,rfl,g,?_,?_⟩
  ·rw[n];unfold Es;rw[if_pos (by omega),if_pos (by rw[aq];omega)];rw[mT]
  ·refine⟨j.set (i % 12) (j[i % 12]+z),_,_,rfl,?_,by rw[jv];exact J,?_,?_⟩
   ·rw[aa,jX]
   ·rw[am T.symm];exact kp L Y
   ·intro b o e;rw[am (ah e N)];exact kp (m b o e) Y
 ·rintro σ w ⟨j,x,y,rfl,f,J,L,m⟩;refine⟨_,rfl,(by show 3<=ao;decide),fun p hp=>k p c _ (m.free hp) ⟨0,0,j,aa,kp f hp,Int.le_refl _,Int.le_refl _⟩ (m.trans (ae.new hp))⟩
def qr(c:Nat):Prop:=97<=c/\c<=122
structure jB(w:Str):Prop where
 lo:1<=w.length
 hi:w.length<=8
 al:∀c∈w.cps.toList,qr c
theorem yI:∀n:Nat,n<26->(("abcdefghijklmnopqrstuvwxyz":Str).cps.toList)[n]?=some (97+n):=by decide +kernel
theorem yH:("abcdefghijklmnopqrstuvwxyz":Str).length<=ao:=by decide +kernel
theorem BH{r:Int}(a:0<=r)(e:r<26):yF (("abcdefghijklmnopqrstuvwxyz":Str).cps.toList) r=some (97+r.toNat):=by
 obtain⟨n,rfl⟩:=fO a;rw[mT];exact bW (yI n (by omega))
theorem vn(f:List Nat):∀a:Array Nat,((f.map fun c=>(⟨#[c]⟩:Str)).foldl (fun a p=>a++("":Str).cps++p.cps) a).toList=a.toList++f:=by
 have e:("":Str).cps=#[]:=by decide +kernel
 induction f with
 |nil=>intro a;simp
 |cons c f g =>
  intro a;rw[aS,mN,g,e];simp
theorem uu(a:List Nat):(eg "" (a.map fun c=>(⟨#[c]⟩:Str))).cps.toList=a:=by
 unfold eg cT.Str.glued;cases a with
 |nil=>rfl
 |cons c a =>
  rw[aS];show((a.map fun c=>(⟨#[c]⟩:Str)).foldl (fun e p=>e++("":Str).cps++p.cps) #[c]).toList=_;rw[vn]
  rfl
theorem sv{a b:Str}(h:a.cps.toList=b.cps.toList):a=b:=by
 cases a with|mk x=>cases b with|mk y=>exact congrArg Str.mk (Array.toList_inj.mp h)
theorem aZ(a:Str):a.length=a.cps.toList.length:=by simp[Str.length]
theorem dH(a b:Str):(a++b).cps.toList=a.cps.toList++b.cps.toList:=by
 show(a.cps++b.cps).toList=_;simp
theorem BB(z:Str)(m:Nat):(qE z none (some (m:Int))).cps.toList=z.cps.toList.take m:=by
 unfold qE;rw[HT.sIx_none,HT.sIx_nat,kT,sV,aZ];show List.take _ _=_;rw[List.take_eq_take_iff];omega
theorem z7(z:Str)(m:Nat):(qE z (some (m:Int)) none).cps.toList=z.cps.toList.drop m:=by
 unfold qE;rw[HT.sIx_none,HT.sIx_nat,aZ];show List.take _ _=_;rw[pB (by rw[fc];omega)];by_cases h:m<=z.cps.toList.length
 ·rw[mO h]
 ·rw[wx (by omega),kR,pC (by omega)]
def ff(way size k:Nat):Nat:=(size+k * (way % 2)) % 8
def An(way m:Nat):Nat:=if way=0 then 0 else if way=1 then m else m / 2
def mE(b:List Nat)(way turn size k:Nat):List Nat :=
 (b.take (ff way size k)).take (An way (ff way size k))++[97+(turn+3 * k) % 26]++(b.take (ff way size k)).drop (An way (ff way size k))
def i9(b:List Nat)(way turn size k:Nat):Str:=⟨(mE b way turn size k).toArray⟩
theorem pP{b:List Nat}(f:b.length=7)(e turn a k:Nat):(mE b e turn a k).length=ff e a k+1:=by
 have g:ff e a k<8:=sT _ (by decide);unfold mE;rw[aV,aV,aL,fc,aL,f];have:An e (ff e a k)<=ff e a k:=by unfold An;split;omega;split;omega;omega
 simp;omega
theorem GQ{b:List Nat}(i:b.length=7)(g:∀c∈b,qr c)(f turn a k:Nat):jB (i9 b f turn a k):=by
 have j:ff f a k<8:=sT _ (by decide);have h:=pP i f turn a k;have e:(i9 b f turn a k).cps.toList=mE b f turn a k:=by simp[i9]
 refine⟨?_,?_,?_⟩
 ·rw[aZ,e];omega
 ·rw[aZ,e];omega
 ·rw[e];intro c hc;unfold mE at hc;rcases bu.mp hc with hc|hc
  ·rcases bu.mp hc with hc|hc
   ·exact g c (fM (fM hc))
   ·have:c=97+(turn+3 * k) % 26:=by simpa using hc
    subst this;have:(turn+3 * k) % 26<26:=sT _ (by decide);exact⟨by omega,by omega⟩
  ·exact g c (fM (sS hc))
theorem EB{b:List Nat}(g:b.length=7){f turn a:Nat}(t:f<3){j k:Nat}(u:j<26)(v:k<26)(h:i9 b f turn a j=i9 b f turn a k):j=k:=by
 have o:∀i,ff f a i<8:=fun i=>sT _ (by decide);have e:mE b f turn a j=mE b f turn a k:=by
  have:=congrArg (fun s=>Str.cps s |>.toList) h;simpa[i9]using this
 have p:ff f a j=ff f a k:=by
  have:=congrArg List.length e;rw[pP g,pP g]at this;omega
 have q:97+(turn+3 * j) % 26=97+(turn+3 * k) % 26:=by
  have l:∀i,An f (ff f a i)<=ff f a i:=fun i=>by unfold An;split;omega;split;omega;omega
  have get:∀i,(mE b f turn a i)[An f (ff f a i)]?=some (97+(turn+3 * i) % 26):=by
   intro i;unfold mE;have r:((b.take (ff f a i)).take (An f (ff f a i))).length=An f (ff f a i):=by
    rw[aL,aL,g];have:=o i;have:=l i;omega
   rw[dU,pL (by omega),r,Nat.sub_self]
   rfl
  have m:=get j;have n:=get k;rw[e,p]at m;rw[m]at n;exact d4 n
 omega
def eT(ws:Zb):Prop:=ws.Nodup/\∀w∈ws,jB w
def j9(b:List Nat)(way turn size n:Nat):List Str:=(nV n).map (i9 b way turn size)
theorem At{b:List Nat}(g:b.length=7)(i:∀c∈b,qr c){a turn e n:Nat}(l:a<3)(q:n<=26):eT (j9 b a turn e n):=by
 refine⟨?_,fun w m=>?_⟩
 ·unfold j9;rw[List.nodup_iff_pairwise_ne,List.pairwise_map];refine(List.nodup_range (n:=n)).imp_of_mem ?_;intro j k o p f h;exact f (EB g l (by have:=List.mem_range.mp o;omega) (by have:=List.mem_range.mp p;omega) h)
 ·obtain⟨k,_,rfl⟩:=aR.mp m;exact GQ g i _ _ _ _
inductive oy (vs:List V)(H:Hp)(Q:VK)(E:XK):Prop
 |mk (p c:Addr) (n:Nat):(vs=[.ref p,.int n])->(fA H p c)->(n<=26)->(∀(l:Addr) (ws:Zb) (H':Hp),eT ws->ws.length=n->H l=none->H' l=some (.lst (ws.map V.str))->fA H' p c->cV p H H'->Q (.ref l) H')->oy  vs H Q E
theorem Fb{K:Za}{B:List V}{H:Hp}{Q:VK}{E:XK}(h:oy B H Q E):zf K cY (bJ Q) (start Aj B) H:=by
 obtain⟨p,c,n,rfl,D,hn,k⟩:=h;refine⟨rfl,7,rfl,by decide,by decide,fun l J=>?_⟩
 let an:Nat->List V->Hp->Prop:=fun i B u=>∃o:List Nat,B=o.map (fun c=>V.str ⟨#[c]⟩)/\o.length=i/\(∀c∈o,qr c)/\fA u p c/\cV p H u/\u l=some (.lst B)
 refine uG (lo:=0) (n:=Int.toNat 7) an
  ⟨[],rfl,rfl,(fun _ h=>nomatch h),D.ex (ae.new J),cV.new J,aa⟩ (fun i B u _ zq=>by obtain⟨_,_,_,_,_,_,h⟩:=zq;exact h) ?_ ?_
 rotate_left
 ·rintro i B u hi ⟨o,rfl,g,w,v,ap,as⟩;have L:=D.nep J;have aC:=D.nec J;refine gN (pO ?_);refine⟨_,rfl,_,rfl,cp v (by decide) (by decide) fun r H2 h0 h1 G s=>⟨_,r,_,rfl,rfl,yH,BH h0 h1,?_⟩⟩;have aH:=s l _ as L.symm;refine⟨aH,by rw[aq,g];exact aU (by omega),uf hi ⟨o++[97+r.toNat],by rw[aK];rfl,by rw[aV,g];rfl,?_,G.upd L aC,?_,aa⟩⟩
  ·intro x hc;rcases bu.mp hc with hc|hc
   ·exact w x hc
   ·have:x=97+r.toNat:=by simpa using hc
    subst this;exact⟨by omega,by omega⟩
  ·intro b o' e nb;rw[am (ah e J)];exact s b o' (ap b o' e nb) nb
 ·rintro B H1 ⟨o,rfl,g,w,aT,M,aX⟩;refine⟨"",l,o.map fun c=>(⟨#[c]⟩:Str),rfl,rfl,aA.of (by rw[aX,eZ];rfl),?_,?_⟩
  ·have e0:("":Str).length=0:=by decide +kernel
   rw[e0,Nat.mul_zero,eZ];have:∀o:List Nat,(o.map ((fun x=>Str.length x) ∘ fun c=>(⟨#[c]⟩:Str))).sum=o.length:=by
    intro o
    induction o with
    |nil=>rfl
    |cons c o ih=>rw[aS,c8,ih,bP];show 1+_=_;omega
   rw[this,g];decide
  refine⟨_,rfl,cp aT (by decide) (by decide) fun a8 H2 w0 w1 G s=>?_⟩;refine⟨_,rfl,cp G (by decide) (by decide) fun turn H3 t0 t1 a0 N=>?_⟩;refine⟨_,rfl,cp a0 (by decide) (by decide) fun a7 H4 s0 s1 O T=>?_⟩;have U:cV p H H4:=((M.trans s).trans N).trans T;obtain⟨j,rfl⟩:=fO w0;obtain⟨I,rfl⟩:=fO t0;obtain⟨sz,rfl⟩:=fO s0;have hb:=uu o;generalize eg "" (o.map fun c=>(⟨#[c]⟩:Str))=base at hb ⊢;refine⟨(by show 0<=ao;decide),fun f hf=>?_⟩;obtain⟨op,a4⟩:=O.pen;have y:H f=none:=U.free a4 hf;have Y:=D.nep y;have ab:=D.nec y;refine⟨_,rfl,n,rfl,by omega,by omega,mf (lo:=0) (n:=((n:Int)).toNat) (fun i σ u=>∃(a b c' d:Option V),σ=[some (.ref p),some (.int n),some (.str "abcdefghijklmnopqrstuvwxyz"),some (.str base),some (.int j),some (.int I),some (.int sz),some (.ref f),a,b,c',d] /\
   fA u p c/\cV p H u/\u f=some (.lst ((j9 o j I sz i).map V.str)))
   ⟨_,_,_,_,rfl,O.upd Y ab,U.trans (cV.new hf),aa⟩ ?_ ?_⟩
  ·rintro i σ u hi ⟨a,b,c',d,rfl,v,t,z⟩;have a9:i<n:=by omega
   have bd:j<3:=by omega
   have a5:((I:Int)+3 * (0+(i:Int))) % 26=(((I+3 * i) % 26:Nat):Int):=by omega
   refine⟨_,rfl,_,rfl,_,rfl,_,_,rfl,rfl,.inl ⟨by decide,by decide⟩,_,_,rfl,rfl,_,_,rfl,rfl,(by show(0:Int)<26;decide),_,_,_,rfl,rfl,yH,BH (pA _ (by decide)) (pq _ (by decide)),?_⟩;have ai:base.length<=ao:=by rw[aZ,hb,g];decide
   have e8:((sz:Int)+(0+(i:Int)) * ((j:Int) % 2)) % 8=((ff j sz i:Nat):Int):=by
    unfold ff;have:j=0∨j=1∨j=2:=by omega
    rcases this with rfl|rfl|rfl<;>simp<;>omega
   refine⟨_,rfl,_,rfl,_,rfl,_,rfl,_,_,rfl,rfl,(by show(0:Int)<2;decide),_,_,rfl,rfl,.inr ⟨by omega,by omega⟩,_,_,rfl,rfl,_,_,rfl,rfl,(by show(0:Int)<8;decide),_,rfl,base,rfl,ai,?_⟩;rw[e8];have m:=BB base (ff j sz i);rw[hb]at m;generalize qE base none (some ((ff j sz i:Nat):Int))=part at m ⊢;have h8:ff j sz i<8:=sT _ (by decide);have C:part.length=ff j sz i:=by rw[aZ,m,aL,g];omega
   have pz:part.length<=ao:=by rw[C];exact c6 (aU (by omega))
   refine⟨_,rfl,.inr ⟨part,rfl,pz,_,rfl,.inr ⟨part,rfl,pz,_,_,rfl,rfl,⟨by decide,by decide⟩,(by show 3<=ao;decide),fun q hq=>?_⟩⟩⟩;have aj:H q=none:=by
    obtain⟨bi,ak⟩:=v.pen;exact t.free ak hq
   have a6:yF [V.int 0,V.int (part.length:Nat),V.int ((part.length:Int) / 2)] (j:Int)=some (.int (An j (ff j sz i):Nat)):=by
    rw[C];have:j=0∨j=1∨j=2:=by omega
    rcases this with rfl|rfl|rfl
    ·rfl
    ·rfl
    ·show some (V.int (((ff 2 sz i:Nat):Int) / 2))=some (V.int ((An 2 (ff 2 sz i):Nat):Int));have:An 2 (ff 2 sz i)=ff 2 sz i / 2:=rfl;rw[this];congr 2
   refine⟨_,rfl,q,_,_,_,rfl,rfl,aA.of aa,a6,?_⟩;have al:upd u q (.lst [V.int 0,V.int (part.length:Nat),V.int ((part.length:Int) / 2)]) f=some (.lst ((j9 o j I sz i).map V.str)):=kp z hq;have c1:=BB part (An j (ff j sz i));have c2:=z7 part (An j (ff j sz i));have l1:(qE part none (some ((An j (ff j sz i):Nat):Int))).length<=8:=by rw[aZ,c1,aL,m,aL,g];omega
   have l2:(qE part (some ((An j (ff j sz i):Nat):Int)) none).length<=8:=by rw[aZ,c2,fc,m,aL,g];omega
   refine⟨_,rfl,.inl ⟨rfl,_,aA.of al⟩,_,rfl,_,rfl,_,rfl,part,rfl,pz,_,rfl,_,_,rfl,rfl,?_,_,rfl,_,rfl,_,rfl,part,rfl,pz,_,_,rfl,rfl,?_,f,_,_,rfl,rfl,al,?_,?_⟩
   ·have:Str.length ⟨#[97+(((I:Int)+3 * (0+(i:Int))) % 26).toNat]⟩=1:=rfl;rw[this];exact c6 (aU (by omega))
   ·rw[aZ,dH,aV,<-aZ,<-aZ];have:Str.length ⟨#[97+(((I:Int)+3 * (0+(i:Int))) % 26).toNat]⟩=1:=rfl;rw[this];exact c6 (aU (by omega))
   ·rw[aq];unfold j9;rw[aq,List.length_range];exact aU (by omega)
   ·refine⟨_,_,_,_,rfl,(v.upd (D.nep aj) (D.nec aj)).upd Y ab,?_,?_⟩
    ·intro b' o' e nb;rw[am (ah e y)];exact kp (t b' o' e nb) hq
    ·rw[aa];unfold j9;rw[List.range_succ,aK,aK];congr 3;show[V.str _]=[V.str _];congr 2;refine sv ?_;rw[dH,dH,c1,c2,m,a5,mT];simp[i9,mE]
  ·rintro σ u ⟨a,b,c',d,rfl,v,t,z⟩;have en:((n:Int)).toNat=n:=by omega
   rw[en]at z;exact⟨_,rfl,k f _ u (At g w (by omega) hn) (by unfold j9;rw[aq,List.length_range]) y z v t⟩
structure av where
 a:Str
 sg:List Str
 b:Str
deriving DecidableEq
def SignAt(H:Hp)(s:Addr)(sg:Zb):Prop:=H s=some (.tup (sg.map V.str))
def fm(H:Hp)(t:Addr)(d:av):Prop:=∃s,H t=some (.tup [.str d.a,.ref s,.str d.b])/\SignAt H s d.sg
def BO(H H':Hp):Prop:=∀b xs,H b=some (.tup xs)->H' b=some (.tup xs)
theorem fm.kt{H H':Hp}{t:Addr}{d:av}(k:BO H H')(h:fm H t d):fm H' t d:=by
 obtain⟨s,a,e⟩:=h;exact⟨s,k _ _ a,k _ _ e⟩
theorem cV.kt{p:Addr}{H a:Hp}{xs:List V}(e:cV p H a)(f:H p=some (.lst xs)):BO H a:=fun b g h=>e b _ h (fun z=>by rw[z,f]at h;cases h)
theorem ae.kt{H a:Hp}(e:ae H a):BO H a:=fun b f h=>e b _ h
theorem BO.trans{H e f:Hp}(a:BO H e)(b:BO e f):BO H f:=fun x xs h=>b x xs (a x xs h)
theorem jz{H:Hp}{l:Addr}{xs:List V}{o:HO}(h:H l=some (.lst xs)):BO H (upd H l o):=fun b a e=>by
 rw[am (fun z=>by rw[z,h]at e;cases e)];exact e
abbrev dE(H:Hp)(ts:Ze)(ds:List av):Prop:=Paired (fm H) ts ds
theorem Paired.get{α β:Type}{R:α->β->Prop}{xs:List α}{a:List β}{i:Nat}{y:β}(g:Paired R xs a)(h:a[i]?=some y):∃x,xs[i]?=some x/\R x y:=by
 induction g generalizing i with
 |nil=>cases h
 |cons r _ e =>
  cases i with
  |zero=>injection h with h;subst h;exact⟨_,rfl,r⟩
  |succ i=>exact e h
theorem Paired.getL{α β:Type}{R:α->β->Prop}{xs:List α}{a:List β}{i:Nat}{x:α}(g:Paired R xs a)(h:xs[i]?=some x):∃y,a[i]?=some y/\R x y:=by
 induction g generalizing i with
 |nil=>cases h
 |cons r _ e =>
  cases i with
  |zero=>injection h with h;subst h;exact⟨_,rfl,r⟩
  |succ i=>exact e h
theorem dE.kt{H H':Hp}{a:Ze}{e:List av}(k:BO H H')(h:dE H a e):dE H' a e:=Paired.mapP h fun _ _ r=>r.kt k
theorem upd_id{H:Hp}{a:Addr}{o:HO}(h:H a=some o):upd H a o=H:=by
 funext b;by_cases e:b=a
 ·subst e;rw[aa,h]
 ·rw[am e]
def bx(x:Str):DT:=.k (.inr x)
def lK(d:av):DT:=.t [bx d.a,.t (d.sg.map bx),bx d.b]
theorem lY{x y:Str}(h:bx x=bx y):x=y:=by
 unfold bx at h;injection h with h;injection h
theorem gW:∀{x y:Zb},x.map bx=y.map bx->x=y
 |[],[],_=>rfl
 |[],_::_,h=>by cases h
 |_::_,[],h=>by cases h
 |a::x,b::y,h=>by
  rw[aS,aS]at h;injection h with e f;rw[lY e,gW f]
theorem HM{x y:av}(h:lK x=lK y):x=y:=by
 unfold lK at h;injection h with h;injection h with e h;injection h with a h;injection h with f h;injection a with a;cases x;cases y;simp only at *;rw[lY e,gW a,lY f]
theorem bZ(xs:Zb):DT.depths (xs.map bx)=0:=by
 induction xs with
 |nil=>rfl
 |cons x xs a=>rw[aS];show max (DT.depth (bx x)) (DT.depths _)=0;rw[a];rfl
theorem yq(d:av):(lK d).depth=2:=by
 show DT.depths [bx d.a,.t (d.sg.map bx),bx d.b]+1=2;show max (DT.depth (bx d.a)) (max (DT.depths (d.sg.map bx)+1) (max (DT.depth (bx d.b)) 0))+1=2;rw[bZ]
 rfl
theorem DY(a:List av):DT.depths (a.map lK)<=8:=by
 induction a with
 |nil=>exact cf _
 |cons x xs e=>rw[aS];show max (DT.depth (lK x)) (DT.depths _)<=8;rw[yq];omega
theorem f6{K:Za}{H:Hp}:∀xs:List Str,DIns K H (xs.map bx) (xs.map V.str)
 |[]=>by show DIns K H [] [];unfold DIns;rfl
 |x::xs=>by
  rw[aS,aS];unfold DIns;refine⟨_,_,rfl,?_,f6 xs⟩;unfold bx kF
  rfl
theorem jm{K:Za}{H:Hp}(x:Str):kF K H (bx x) (.str x):=by unfold bx kF;rfl
theorem f_{K:Za}{H:Hp}{s:Addr}{a:Zb}(h:cq K H s (a.map V.str)):kF K H (.t (a.map bx)) (.ref s):=by
 unfold kF;exact⟨s,_,rfl,h,f6 _⟩
theorem fm.dIn{K:Za}{H:Hp}{t:Addr}{d:av}(h:fm H t d):kF K H (lK d) (.ref t):=by
 obtain⟨s,a,e⟩:=h;unfold lK;unfold kF;refine⟨t,_,rfl,cq.of a,?_⟩;unfold DIns;refine⟨_,_,rfl,jm _,?_⟩;unfold DIns;refine⟨_,_,rfl,f_ (cq.of e),?_⟩;unfold DIns;refine⟨_,_,rfl,jm _,?_⟩;unfold DIns
 rfl
theorem dE.dIns{K:Za}{H:Hp}{a:Ze}{e:List av}(h:dE H a e):DIns K H (e.map lK) (a.map V.ref):=by
 induction h with
 |nil=>show DIns K H [] [];unfold DIns;rfl
 |cons r _ f =>
  rw[aS,aS];unfold DIns;exact⟨_,_,rfl,r.dIn,f⟩
theorem CK{d:av}{a:List av}:lK d∈a.map lK↔d∈a:=by
 constructor
 ·intro h;obtain⟨x,hx,e⟩:=aR.mp h;rw[<-HM e];exact hx
 ·exact pk
def A_(ds:List av)(d:av):List av:=if d∈ds then ds else ds++[d]
inductive tS (vs:List V)(H:Hp)(Q:VK)(E:XK):Prop
 |mk (l t:Addr) (ts:Ze) (ds:List av) (d:av):(vs=[.ref l,.ref t])->(H l=some (.lst (ts.map V.ref)))->(dE H ts ds)->(fm H t d)->(ds.length<=1000)->(∀ts':List Addr,dE H ts' (A_ ds d)->Q .non (upd H l (.lst (ts'.map V.ref))))->tS  vs H Q E
theorem Jc{K:Za}{i:List V}{H:Hp}{Q:VK}{E:XK}(h:tS i H Q E):Dm K (bJ Q) (start Eg i) H:=by
 obtain⟨l,t,j,g,d,rfl,a,e,m,n,k⟩:=h;refine⟨_,rfl,_,rfl,lK d,g.map lK,l,_,m.dIn,rfl,.inl (aA.of a),e.dIns,by rw[yq];decide,DY g,_,rfl,?_⟩;by_cases f:d∈g
 ·rw[if_pos rfl,zzr1 (CK.mpr f)];refine bC ?_;have:=k j (by unfold A_;rw[if_pos f];exact e);rw[upd_id a]at this;exact this
 ·rw[if_pos rfl,zzr0 (fun z=>f (CK.mp z))];refine bI ?_;refine⟨_,rfl,.inl ⟨rfl,_,aA.of a⟩,_,rfl,l,_,_,rfl,rfl,a,?_,?_⟩
  ·rw[aq,Paired.length e];exact aU n
  ·have:=k (j++[t]) (by unfold A_;rw[if_neg f];exact wR e m);rw[aK]at this;exact this
structure DI(R:av->Prop)(H0:Hp)(p c l:Addr)(m:Nat)(H:Hp):Prop where
 pen:fA H p c
 ds:∃ts ds,H l=some (.lst (ts.map V.ref))/\dE H ts ds/\ds.Nodup/\(∀d∈ds,R d)/\ds.length<=m
 ex:cV p H0 H
 fr:H0 l=none
 pl:p≠l
 cl:c≠l
section
variable{R:av->Prop}{H0 H H':Hp}{p c l:Addr}{m:Nat}
theorem fA.lst{H:Hp}{p c:Addr}(h:fA H p c):∃xs,H p=some (.lst xs):=by
 obtain⟨a,r,f,e,_⟩:=h;exact⟨_,e⟩
theorem DI.took(h:DI R H0 p c l m H)(a:fA H' p c)(e:cV p H H'):DI R H0 p c l m H':=by
 obtain⟨f,g,i,j,k⟩:=h.ds;obtain⟨xs,hx⟩:=h.pen.lst;exact⟨a,⟨f,g,e _ _ i h.pl.symm,j.kt (e.kt hx),k⟩,h.ex.trans e,h.fr,h.pl,h.cl⟩
theorem DI.new(h:DI R H0 p c l m H){q:Addr}{o:HO}(a:H q=none):DI R H0 p c l m (upd H q o) :=
 h.took (h.pen.ex (ae.new a)) (cV.new a)
theorem DI.up(h:DI R H0 p c l m H){n:Nat}(a:m<=n):DI R H0 p c l n H:=by
 obtain⟨e,f,g,i,j,k,o⟩:=h.ds;exact⟨h.pen,⟨e,f,g,i,j,k,aP o a⟩,h.ex,h.fr,h.pl,h.cl⟩
theorem DI.put(h:DI R H0 p c l m H){t:Addr}{d:av}{Q:VK}{E:XK}(r:fm H t d)(s:R d)(u:m<=1000)(k:∀H',DI R H0 p c l (m+1) H'->Q .non H'):tS [.ref l,.ref t] H Q E:=by
 obtain⟨v,f,i,w,j,q,y⟩:=h.ds;refine⟨l,t,v,f,d,rfl,i,w,r,aP y u,fun g z=>k _ ⟨h.pen.upd h.pl h.cl,⟨g,A_ f d,aa,z.kt (jz i),?_,?_,?_⟩,?_,h.fr,h.pl,h.cl⟩⟩
 ·unfold A_;split
  ·exact j
  ·next B =>
   rw[fQ];refine⟨j,by simp,?_⟩;intro a C b D e;have:b=d:=by simpa using D
   subst this;exact B (e▸C)
 ·intro x hx;unfold A_ at hx;split at hx
  ·exact q x hx
  ·rcases bu.mp hx with hx|hx
   ·exact q x hx
   ·have:x=d:=by simpa using hx
    rw[this];exact s
 ·unfold A_;split
  ·omega
  ·rw[aV];show f.length+1<=m+1;omega
 ·intro b o e n;rw[am (ah e h.fr)];exact h.ex b o e n
end
theorem fA.ne_strs{H:Hp}{p c a:Addr}{g:Zb}(h:fA H p c)(f:H a=some (.lst (g.map V.str))):a≠p:=by
 intro e;obtain⟨x,y,j,i,_⟩:=h;rw[e,i]at f;injection f with f;injection f with f;cases g with
 |nil=>cases f
 |cons w g=>injection f with f;cases f
theorem oJ{K:Za}{r:R2}(C:∀x y H Q,cy K x y H Q->r x y H Q){σ:L2.St}{H:Hp}{Q:VK}{p c a:Addr}{j:Nat}{e:Zb}(D:σ[0]?=some (some (.ref p)))(o:σ[j]?=some (some (.ref a)))(q:fA H p c)
  (g:H a=some (.lst (e.map V.str))) (h:e≠[]) (s:e.length<=1000) (k:∀w∈e,∀H',fA H' p c->cV p H H'->Q (.str w) H') :
  ∃v,σ[j]?=some (some v)/\∃t,σ[0]?=some (some t)/\∃u,σ[j]?=some (some u)/\cD K [u] H fun y E=>cY [t,y] E (fun y G=>r v y G Q) E0:=by
 have J:0<e.length:=by cases e with|nil=>exact absurd rfl h|cons _ _=>simp
 have I:(V.int ((e.map V.str).length:Nat))=V.int (e.length:Nat):=by rw[aq]
 have i:=q.ne_strs g;have l:∀(x:Int) (H':Hp),0<=x->x<(e.length:Int)->fA H' p c->cV p H H'->cy K (.ref a) (.int x) H' Q:=by
  intro x H' m z f ex;obtain⟨n,rfl⟩:=fO m;have B:n<e.length:=by omega
  exact⟨a,_,(n:Int),.str e[n],rfl,rfl,aA.of (ex _ _ g i),bW (by simp[B]),k _ (List.getElem_mem B) H' f ex⟩
 exact⟨_,o,_,D,_,o,.inl ⟨a,_,rfl,.inl (aA.of g),by rw[I];exact cp q (by omega) (by omega) fun x H' m z f ex=>C _ _ _ _ (l x H' m z f ex)⟩⟩
def Up(up:Bool)(J5:Zb)(a b:Str):Prop:=∃i j:Nat,J5[i]?=some a/\J5[j]?=some b/\(if up=true then i<j else j<i)
structure lM(J0 J4 J5:Zb)(up:Bool)(d:av):Prop where
 a:d.a∈J5
 b:d.b∈J5
 sg:(∃w∈J0,d.sg=[("ask":Str),w])∨(∃w∈J4,d.sg=[("say":Str),w])∨(d.sg=[("still":Str)]/\Up up J5 d.a d.b)
def aJ:List Str:=[("still":Str)]
structure GA(J0 J4 J5:Zb)(d:av):Prop where
 a:d.a∈J5
 b:d.b∈J5
 sg:(∃w∈J0,d.sg=[("ask":Str),w])∨(∃w∈J4,d.sg=[("say":Str),w])∨d.sg=aJ
theorem lM.d{J0 e f:Zb}{up:Bool}{d:av}(h:lM J0 e f up d):GA J0 e f d:=⟨h.a,h.b,h.sg.imp id (Or.imp id And.left)⟩
inductive Reach(ds:List av)(a:Str):Str->Prop
 |one {b:Str}(h:(⟨a,aJ,b⟩:av)∈ds):Reach ds a b
 |step {b c:Str}(r:Reach ds a b) (h:(⟨b,aJ,c⟩:av)∈ds):Reach ds a c
theorem CQ{e:Zb}(n:e.Nodup){i j:Nat}{a:Str}(hi:e[i]?=some a)(o:e[j]?=some a):i=j:=by
 obtain⟨f,g⟩:=dg.mp hi;obtain⟨k,l⟩:=dg.mp o;have m:=List.pairwise_iff_getElem.mp n;rcases Nat.lt_trichotomy i j with h|h|h
 ·exact absurd (g.trans l.symm) (m i j f k h)
 ·exact h
 ·exact absurd (l.trans g.symm) (m j i k f h)
theorem Up.trans{up:Bool}{e:Zb}(g:e.Nodup){a b c:Str}(l:Up up e a b)(m:Up up e b c):Up up e a c:=by
 obtain⟨i,j,n,o,h⟩:=l;obtain⟨r,k,p,q,f⟩:=m;have:=CQ g o p;subst this;refine⟨i,k,n,q,?_⟩;cases up
 ·simp at h f ⊢;omega
 ·simp at h f ⊢;omega
theorem Up.irr{up:Bool}{e:Zb}(f:e.Nodup){a:Str}(h:Up up e a a):False:=by
 obtain⟨i,j,g,k,h⟩:=h;have:=CQ f g k;subst this;cases up
 ·simp at h
 ·simp at h
theorem ED{j k g:Zb}{i:List av}{up:Bool}(l:g.Nodup)(m:∀d∈i,lM j k g up d){a b:Str}(h:Reach i a b):Up up g a b:=by
 have f:∀{a b:Str},(⟨a,aJ,b⟩:av)∈i->Up up g a b:=by
  intro a b h;rcases(m _ h).sg with⟨w,_,e⟩|⟨w,_,e⟩|⟨_,e⟩
  ·cases e
  ·cases e
  ·exact e
 induction h with
 |one h=>exact f h
 |step r h n=>exact n.trans l (f h)
inductive gG (vs:List V)(H:Hp)(Q:VK)(E:XK):Prop
 |mk (p c l1 l2 l3:Addr) (J0 J4 J5:Zb) (full:Int):(vs=[.ref p,.ref l1,.ref l2,.ref l3,.int full])->(fA H p c)->(H l1=some (.lst (J0.map V.str)))->(H l2=some (.lst (J4.map V.str)))->(H l3=some (.lst (J5.map V.str)))->(J0.length<=4)->(J4≠[])->(J4.length<=4)->(J5≠[])->(J5.length<=26)->(0<=full)->(full<=2)->(∀(l:Addr) (ts:Ze) (ds:List av) (up:Bool) (H':Hp),H l=none->H' l=some (.lst (ts.map V.ref))->dE H' ts ds->ds.Nodup->(∀d∈ds,lM J0 J4 J5 up d)->ds.length<=600->fA H' p c->cV p H H'->Q (.ref l) H')->gG  vs H Q E
theorem at4{x r:Int}(a:0<=x)(e:x<=2)(f:0<=r)(g:r<4):∃j:Int,yF [V.int x,.int 1,.int 1,.int 2] r=some (.int j)/\0<=j/\j<=2:=by
 have:r=0∨r=1∨r=2∨r=3:=by omega
 rcases this with rfl|rfl|rfl|rfl
 ·exact⟨x,rfl,a,e⟩
 ·exact⟨1,rfl,by decide,by decide⟩
 ·exact⟨1,rfl,by decide,by decide⟩
 ·exact⟨2,rfl,by decide,by decide⟩
theorem qD(a:Zb)(k:Nat):dq (a.map V.str) (some (k:Int)) none=(a.drop k).map V.str:=by
 unfold dq;rw[HT.sIx_none,HT.sIx_nat,aq,pB (by rw[fc,aq];omega),kS];by_cases h:k<=a.length
 ·rw[mO h]
 ·rw[wx (by omega),pC (by simp),pC (by rw[aq];omega)]
theorem sM(a:Zb)(k:Nat):dq (a.map V.str) none (some (k:Int))=(a.take k).map V.str:=by
 unfold dq;rw[HT.sIx_none,HT.sIx_nat,aq,kT,sV,jY,List.take_eq_take_iff,aq];omega
theorem o6{K:Za}{H:Hp}{a:Addr}{e:Zb}(h:aA K H a (e.map V.str)):kF K H (.s (e.map bx)) (.ref a):=by
 unfold kF;exact⟨a,_,rfl,h,f6 _⟩
theorem HL{K:Za}{H:Hp}{a:Addr}(h:aA K H a []):kF K H (.s []) (.ref a):=by
 unfold kF;refine⟨a,_,rfl,h,?_⟩;unfold DIns
 rfl
inductive DdI(G:av->Prop)(H:Hp)(p c l l1 l2 l3:Addr)(full dn:Int)(i:Nat)(σ:L2.St)(H':Hp):Prop
 |mk (a7 a8 a9 a10 a11 a12:Option V):σ=[some (.ref p),some (.ref l1),some (.ref l2),some (.ref l3),some (.int full),some (.ref l),some (.int dn),a7,a8,a9,a10,a11,a12]->DI G H p c l (11 * i) H'->DdI G H p c l l1 l2 l3 full dn i σ H'
theorem vj{K:Za}{vs:List V}{H:Hp}{Q:VK}{E:XK}(h:gG vs H Q E):pU K cY tS (bJ Q) (start qK vs) H:=by
 obtain⟨p,c,l1,l2,l3,J0,J4,J5,a,rfl,hp,h1,h2,h3,ha,b1,hs,ap,hr,f0,f2,k⟩:=h;have n1:=hp.ne_strs h1;have n2:=hp.ne_strs h2;have n3:=hp.ne_strs h3;refine⟨(by show 0<=ao;decide),fun l hl=>?_⟩;have as:=hp.nep hl;have b2:=hp.nec hl;refine⟨_,rfl,cp (hp.ex (ae.new hl)) (by decide) (by decide) fun N H1 d0 d1 b3 aC=>?_⟩;generalize hG:lM J0 J4 J5 (decide (N=0))=G;have base:DI G H p c l 0 H1:=⟨b3,⟨[],[],aC _ _ aa as.symm,.nil,j6,by simp,cf _⟩,(cV.new hl).trans aC,hl,as,b2⟩;refine⟨_,rfl,l3,rfl,⟨_,aA.of (base.ex _ _ h3 n3)⟩,?_⟩;refine fz (xs:=J5.map V.str) (DdI G H p c l l1 l2 l3 a N)
  ⟨_,_,_,_,_,_,rfl,base⟩ (fun i σ H' _ zq=>by obtain⟨_,_,_,_,_,_,_,D⟩:=zq;exact aA.of (D.ex _ _ h3 n3)) ?_ ?_
 ·rintro i x σ H' t hi ⟨a7,a8,I,m,v,B,rfl,D⟩ ht;obtain⟨room,f,rfl⟩:∃room,J5[i]?=some room/\x=V.str room:=by
   rw[bD]at hi;cases q:J5[i]? with
   |none=>rw[q]at hi;cases hi
   |some r=>rw[q]at hi;exact⟨r,rfl,(d4 hi).symm⟩
  have c1:i<J5.length:=(dg.mp f).1;have O:room∈J5:=ca f;refine⟨t,_,rfl,cq.of aa,rfl,_,_,rfl,_,_,rfl,rfl,?_⟩;have D1:=D.new ht (o:=.tup [.int i,.str room]);refine⟨(by show 4<=ao;decide),fun q hq=>⟨_,rfl,cp (D1.new hq).pen (by decide) (by decide) fun r H2 r0 r1 b4 aH=>?_⟩⟩;obtain⟨j,hj,j0,j2⟩:=at4 (x:=0) (by decide) (by decide) r0 r1;have D2:=(D1.new hq).took b4 aH;refine⟨q,_,_,_,rfl,rfl,aA.of (aH q _ aa (D1.pen.nep hq).symm),hj,j,rfl,by omega,by omega,?_⟩
  let b5:Nat->L2.St->Hp->Prop:=fun i' σ T=>Ld fun(I m:Option V)=>σ=[some (.ref p),some (.ref l1),some (.ref l2),some (.ref l3),some (.int a),some (.ref l),some (.int N),some (.int i),some (.str room),I,m,v,B]/\DI G H p c l (11 * i+i') T
  refine mf (lo:=0) (n:=j.toNat) b5
   ⟨_,_,rfl,D2⟩ ?_ ?_
  ·rintro i' σ H3 J ⟨I,m,rfl,D3⟩;refine oJ (fun _ _ _ _ h=>h) rfl rfl D3.pen (D3.ex _ _ h2 n2) b1 (by omega) fun w hw H4 b6 b7=>?_;have D4:=D3.took b6 b7;refine⟨(by show 2<=ao;decide),fun M g=>?_⟩;have D5:=D4.new g (o:=.tup [.str "say",.str w]);refine⟨_,rfl,_,rfl,_,rfl,oJ (fun _ _ _ _ h=>h) rfl rfl D5.pen (D5.ex _ _ h3 n3) ap (by omega) fun Y L H6 b8 aT=>?_⟩;have D6:=D5.took b8 aT;refine⟨(by show 3<=ao;decide),fun dr u=>?_⟩;have D7:=D6.new u (o:=.tup [.str room,.ref M,.str Y]);have aX:H6 M=some (.tup [.str "say",.str w]):=aT _ _ aa (D4.pen.nep g).symm;refine D7.put (d:=⟨room,["say",w],Y⟩) ⟨M,aa,kp aX u⟩ ?_ (by omega) fun H8 D8=>⟨_,_,rfl,D8⟩;rw[<-hG];exact⟨O,L,.inr (.inl ⟨w,hw,rfl⟩)⟩
  rintro σ H3 ⟨I,m,rfl,a0⟩;have D3:DI G H p c l (11 * i+2) H3:=a0.up (by omega);clear a0;refine⟨_,rfl,l1,rfl,⟨_,aA.of (D3.ex _ _ h1 n1)⟩,?_⟩
  let ce:Nat->L2.St->Hp->Prop:=fun i' σ T=>Ld fun(I v:Option V)=>σ=[some (.ref p),some (.ref l1),some (.ref l2),some (.ref l3),some (.int a),some (.ref l),some (.int N),some (.int i),some (.str room),I,m,v,B]/\DI G H p c l (11 * i+2+2 * i') T
  refine gZ (xs:=J0.map V.str) ce
   ⟨_,_,rfl,D3⟩ (fun i σ H' _ zq=>by obtain⟨_,_,_,D⟩:=zq;exact aA.of (D.ex _ _ h1 n1)) ?_ ?_
  ·rintro i' x σ H4 J ⟨I,v,rfl,D4⟩;obtain⟨ask,ai,rfl⟩:∃ask,J0[i']?=some ask/\x=V.str ask:=by
    rw[bD]at J;cases q:J0[i']? with
    |none=>rw[q]at J;cases J
    |some r=>rw[q]at J;exact⟨r,rfl,(d4 J).symm⟩
   have c2:i'<J0.length:=(dg.mp ai).1;have ch:ask∈J0:=ca ai;refine⟨_,rfl,(by show 4<=ao;decide),fun q hq=>⟨_,rfl,cp (D4.new hq).pen (by decide) (by decide) fun r H5 r0 r1 ci a4=>?_⟩⟩;obtain⟨j,hj,j0,j2⟩:=at4 f0 f2 r0 r1;have D5:=(D4.new hq).took ci a4;refine⟨q,_,_,_,rfl,rfl,aA.of (a4 q _ aa (D4.pen.nep hq).symm),hj,j,rfl,by omega,by omega,?_⟩
   let ck:Nat->L2.St->Hp->Prop:=fun a5 σ T=>∃I:Option V,σ=[some (.ref p),some (.ref l1),some (.ref l2),some (.ref l3),some (.int a),some (.ref l),some (.int N),some (.int i),some (.str room),I,m,some (.str ask),B]/\DI G H p c l (11 * i+2+2 * i'+a5) T
   refine mf (lo:=0) (n:=j.toNat) ck
    ⟨_,rfl,D5⟩ ?_ ?_
   ·rintro a5 σ H6 c0 ⟨I,rfl,D6⟩;refine⟨_,rfl,_,rfl,_,rfl,(by show 2<=ao;decide),fun M g=>?_⟩;have D7:=D6.new g (o:=.tup [.str "ask",.str ask]);refine oJ (fun _ _ _ _ h=>h) rfl rfl D7.pen (D7.ex _ _ h3 n3) ap (by omega) fun Y L H8 cl a6=>?_;have D8:=D7.took cl a6;refine⟨(by show 3<=ao;decide),fun dr u=>?_⟩;have D9:=D8.new u (o:=.tup [.str room,.ref M,.str Y]);have bd:H8 M=some (.tup [.str "ask",.str ask]):=a6 _ _ aa (D6.pen.nep g).symm;refine D9.put (d:=⟨room,["ask",ask],Y⟩) ⟨M,aa,kp bd u⟩ ?_ (by omega) fun H8 D8=>⟨_,rfl,D8⟩;rw[<-hG];exact⟨O,L,.inl ⟨ask,ch,rfl⟩⟩
   ·rintro σ H6 ⟨I,rfl,D6⟩;exact⟨_,_,rfl,D6.up (by omega)⟩
  rintro σ H4 ⟨I,v,rfl,bi⟩;have D4:DI G H p c l (11 * i+10) H4:=bi.up (by rw[aq];omega);clear bi;have C:∀(H9:Hp) (B:Option V),DI G H p c l (11 * i+11) H9->DdI G H p c l l1 l2 l3 a N (i+1) [some (.ref p),some (.ref l1),some (.ref l2),some (.ref l3),some (.int a),some (.ref l),some (.int N),some (.int i),some (.str room),I,m,v,B] H9:=fun H9 B D9=>⟨_,_,_,_,_,_,rfl,D9.up (by omega)⟩;refine⟨_,rfl,_,rfl,_,_,rfl,rfl,_,rfl,l3,_,rfl,aA.of (D4.ex _ _ h3 n3),fun q1 cm=>?_⟩;have D5:=D4.new cm (o:=.lst (dq (J5.map V.str) (some ((i:Int)+1)) none));refine⟨_,rfl,_,rfl,_,rfl,l3,_,rfl,aA.of (D5.ex _ _ h3 n3),fun q2 bl=>?_⟩;have e1:dq (J5.map V.str) (some ((i:Int)+1)) none=(J5.drop (i+1)).map V.str:=qD J5 (i+1);rw[sM];have D6:=D5.new bl (o:=.lst ((J5.take i).map V.str));refine⟨(by show 2<=ao;decide),fun q3 ak=>?_⟩;have D7:=D6.new ak (o:=.lst [.ref q1,.ref q2]);obtain⟨lt,q,hq,ab,U⟩:∃(lt:Zb) (q:Addr),yF [V.ref q1,.ref q2] N=some (.ref q) /\
    upd (upd (upd H4 q1 (.lst (dq (J5.map V.str) (some ((i:Int)+1)) none))) q2 (.lst ((J5.take i).map V.str))) q3 (.lst [.ref q1,.ref q2]) q=some (.lst (lt.map V.str))/\lt.length<=26 /\
    ∀w∈lt,w∈J5/\Up (decide (N=0)) J5 room w:=by
   have:N=0∨N=1:=by omega
   rcases this with rfl|rfl
   ·refine⟨J5.drop (i+1),q1,rfl,?_,by rw[fc];omega,fun w hw=>⟨sS hw,?_⟩⟩
    ·refine(kp (kp aa bl) ak).trans ?_;rw[e1]
    ·obtain⟨n,hn⟩:=List.getElem?_of_mem hw;rw[List.getElem?_drop]at hn;exact⟨i,i+1+n,f,hn,by rw[if_pos (by decide)];omega⟩
   ·refine⟨J5.take i,q2,rfl,?_,by rw[aL];omega,fun w hw=>⟨fM hw,?_⟩⟩
    ·exact kp aa ak
    ·obtain⟨n,hn⟩:=List.getElem?_of_mem hw;have cn:n<i:=by
      have:=(dg.mp hn).1;rw[aL]at this;omega
     rw[List.getElem?_take_of_lt cn]at hn;exact⟨i,n,f,hn,by rw[if_neg (by decide)];omega⟩
  refine⟨_,rfl,q3,_,_,_,rfl,rfl,aA.of aa,hq,?_⟩;generalize upd (upd (upd H4 q1 (.lst (dq (J5.map V.str) (some ((i:Int)+1)) none))) q2 (.lst ((J5.take i).map V.str))) q3 (.lst [.ref q1,.ref q2])=H7 at D7 ab ⊢;refine⟨_,rfl,(by show 0<=ao;decide),fun e he=>⟨.s (lt.map bx),.s [],o6 (aA.of (kp ab he)),HL (aA.of aa),?_,by decide,_,rfl,?_⟩⟩
  ·show DT.depths (lt.map bx)+1<=8;rw[bZ];decide
  have D8:=D7.new he (o:=.lst []);by_cases hz:lt=[]
  ·have ez:(!decide (DT.s (lt.map bx)=DT.s []))=false:=by rw[hz,zzr1 (by rfl)];rfl
   rw[ez];exact bC (bC (C _ _ (D8.up (by omega))))
  ·have ez:(!decide (DT.s (lt.map bx)=DT.s []))=true:=by
    rw[zzr0 (fun z=>hz (gW (y:=[]) (by injection z)))];rfl
   rw[ez];refine bI ?_;refine⟨_,rfl,cp D8.pen (by decide) (by decide) fun r H9 r0 r1 co bm=>⟨rfl,_,rfl,?_⟩⟩;have D9:=D8.took co bm;refine dz (fun _=>?_) (fun _=>C _ _ (D9.up (by omega)));refine⟨_,rfl,_,rfl,(by show 1<=ao;decide),fun M g=>?_⟩;have bn:=D9.new g (o:=.tup [.str "still"]);have al:upd H9 M (.tup [.str "still"]) q=some (.lst (lt.map V.str)):=kp (bm _ _ (kp ab he) (D8.pen.ne_strs (kp ab he))) g;refine oJ (fun _ _ _ _ h=>.inl h) rfl rfl bn.pen al hz (by omega) fun Y L cs b0 aj=>?_;have ct:=bn.took b0 aj;refine⟨(by show 3<=ao;decide),fun dr u=>?_⟩;have cB:=ct.new u (o:=.tup [.str room,.ref M,.str Y]);have an:cs M=some (.tup [.str "still"]):=aj _ _ aa (D9.pen.nep g).symm;refine cB.put (d:=⟨room,[("still":Str)],Y⟩) ⟨M,aa,kp an u⟩ ?_ (by omega) fun c3 cC=>C _ _ cC;rw[<-hG];exact⟨O,(U.2 Y L).1,.inr (.inr ⟨rfl,(U.2 Y L).2⟩)⟩
 ·rintro σ H' ⟨a7,a8,I,m,v,B,rfl,D⟩;obtain⟨ts,ds,g1,g2,g3,g4,g5⟩:=D.ds;rw[aq]at g5;rw[<-hG]at g4;exact⟨_,rfl,k l ts ds _ H' hl g1 g2 g3 g4 (by omega) D.pen D.ex⟩
structure bO(J0 J4 J5:Zb)(ds:List av):Prop where
 okA:eT J0
 okS:eT J4
 apart:∀w∈J4,w∉J0
 okR:eT J5
 asks0:J0≠[]
 says0:J4≠[]
 rooms0:J5≠[]
 asks4:J0.length<=4
 says4:J4.length<=4
 rooms26:J5.length<=150
 nodup:ds.Nodup
 good:∀d∈ds,GA J0 J4 J5 d
 few:ds.length<=1000
 noround:∀r,¬Reach ds r r
structure qH(H:Hp)(t l1 l2 l3 l4:Addr)(ts:Ze)(J0 J4 J5:Zb)(ds:List av):Prop where
 t:H t=some (.tup [.ref l1,.ref l2,.ref l3,.ref l4])
 a1:H l1=some (.lst (J0.map V.str))
 a2:H l2=some (.lst (J4.map V.str))
 a3:H l3=some (.lst (J5.map V.str))
 a4:H l4=some (.lst (ts.map V.ref))
 ds:dE H ts ds
theorem fA.ne_refs{H:Hp}{p c a:Addr}{g:Ze}(i:fA H p c)(f:H a=some (.lst (g.map V.ref))):a≠p:=by
 intro e;obtain⟨x,y,k,j,_⟩:=i;rw[e,j]at f;injection f with f;injection f with f;cases g with
 |nil=>cases f
 |cons w h =>
  injection f with _ f;cases h with
  |nil=>cases f
  |cons w h=>injection f with f;cases f
theorem qH.ex{H f:Hp}{p c t g i l3 j:Addr}{k:Ze}{l m n:Zb}{o:List av}(h:qH H t g i l3 j k l m n o)(a:fA H p c)(e:cV p H f):qH f t g i l3 j k l m n o:=by
 obtain⟨xs,hx⟩:=a.lst;exact⟨e.kt hx _ _ h.t,e _ _ h.a1 (a.ne_strs h.a1),e _ _ h.a2 (a.ne_strs h.a2),e _ _ h.a3 (a.ne_strs h.a3),e _ _ h.a4 (a.ne_refs h.a4),h.ds.kt (e.kt hx)⟩
theorem qH.same{H a:Hp}{t f g l3 i:Addr}{j:Ze}{k l m:Zb}{n:List av}(h:qH H t f g l3 i j k l m n)(e:ae H a):qH a t f g l3 i j k l m n :=
 ⟨e _ _ h.t,e _ _ h.a1,e _ _ h.a2,e _ _ h.a3,e _ _ h.a4,h.ds.kt (ae.kt e)⟩
inductive oz (vs:List V)(H:Hp)(Q:VK)(E:XK):Prop
 |mk (p c:Addr) (most full:Int):(vs=[.ref p,.int most,.int full])->(fA H p c)->(0<most)->(most<=25)->(0<=full)->(full<=2)->(∀(t l1 l2 l3 l4:Addr) (ts:Ze) (J0 J4 J5:Zb) (ds:List av) (H':Hp),qH H' t l1 l2 l3 l4 ts J0 J4 J5 ds->bO J0 J4 J5 ds->J5.length<=most.toNat->ds.length<=600->fA H' p c->cV p H H'->Q (.ref t) H')->oz  vs H Q E
theorem at6{r:Int}(a:0<=r)(e:r<6):∃n:Nat,yF [V.int 0,.int 1,.int 1,.int 2,.int 2,.int 3] r=some (.int n)/\n<=3:=by
 have:r=0∨r=1∨r=2∨r=3∨r=4∨r=5:=by omega
 rcases this with rfl|rfl|rfl|rfl|rfl|rfl
 ·exact⟨0,rfl,by decide⟩
 ·exact⟨1,rfl,by decide⟩
 ·exact⟨1,rfl,by decide⟩
 ·exact⟨2,rfl,by decide⟩
 ·exact⟨2,rfl,by decide⟩
 ·exact⟨3,rfl,by decide⟩
theorem Gq{a:Zb}(e:a.length=8){n:Nat}(j:n<=3):dq (a.map V.str) (some 4) (some (5+(n:Int)))=((a.drop 4).take (1+n)).map V.str:=by
 unfold dq;have f:HT.sIx (a.map V.str).length 0 (some 4)=min 4 (a.map V.str).length:=HT.sIx_nat _ _ 4;have g:HT.sIx (a.map V.str).length (a.map V.str).length (some (5+(n:Int)))=min (5+n) (a.map V.str).length:=HT.sIx_nat _ _ (5+n);rw[f,g,aq,e,jY,kS];have h:min 4 8=4:=by decide
 have i:min (5+n) 8-4=1+n:=by omega
 rw[h,i]
theorem Fc{K:Za}{vs:List V}{H:Hp}{Q:VK}{E:XK}(h:oz vs H Q E):zg K gG oy cY xF (bJ Q) (start Ak vs) H:=by
 obtain⟨p,c,bn,ai,rfl,hp,m0,m1,f0,f2,k⟩:=h;refine⟨_,rfl,p,c,rfl,hp,fun H1 aH aT=>?_⟩;refine⟨_,rfl,p,c,8,rfl,aH,by decide,fun lw a H2 ok len fr hl B aX=>?_⟩;have e2:=aT.trans aX;have nw:=B.ne_strs hl;refine⟨_,rfl,(by show 6<=ao;decide),fun q f=>⟨_,rfl,cp (B.ex (ae.new f)) (by decide) (by decide) fun r C r0 r1 a0 D=>?_⟩⟩;obtain⟨n,hn,n3⟩:=at6 r0 r1;have aj:C lw=some (.lst (a.map V.str)):=D _ _ (kp hl f) nw;refine⟨q,_,_,_,rfl,rfl,aA.of (D _ _ aa (B.nep f).symm),hn,_,_,rfl,rfl,_,rfl,lw,_,rfl,aA.of aj,fun g G=>?_⟩;have ea:dq (a.map V.str) none (some (1+(n:Int)))=(a.take (1+n)).map V.str:=sM a (1+n);rw[ea];have e3:cV p H C:=e2.trans ((cV.new f).trans D);have i:fA (upd C g (.lst ((a.take (1+n)).map V.str))) p c:=a0.ex (ae.new G);have e4:cV p H (upd C g (.lst ((a.take (1+n)).map V.str))):=e3.trans (cV.new G);have ak:upd C g (.lst ((a.take (1+n)).map V.str)) lw=some (.lst (a.map V.str)):=kp aj G;have I:upd C g (.lst ((a.take (1+n)).map V.str)) g=some (.lst ((a.take (1+n)).map V.str)):=aa;generalize upd C g (.lst ((a.take (1+n)).map V.str))=H4 at i e4 ak I ⊢;refine⟨_,rfl,_,rfl,(by show 6<=ao;decide),fun q f=>⟨_,rfl,cp (i.ex (ae.new f)) (by decide) (by decide) fun r u r0 r1 a4 j=>?_⟩⟩;obtain⟨m,hm,m3⟩:=at6 r0 r1;have a5:u lw=some (.lst (a.map V.str)):=j _ _ (kp ak f) nw;have a6:u g=some (.lst ((a.take (1+n)).map V.str)):=j _ _ (kp I f) (i.ne_strs I);refine⟨q,_,_,_,rfl,rfl,aA.of (j _ _ aa (i.nep f).symm),hm,_,_,rfl,rfl,_,rfl,lw,_,rfl,aA.of a5,fun v J=>?_⟩;rw[Gq len m3];have e5:cV p H u:=e4.trans ((cV.new f).trans j);have l:fA (upd u v (.lst (((a.drop 4).take (1+m)).map V.str))) p c:=a4.ex (ae.new J);have e6:cV p H (upd u v (.lst (((a.drop 4).take (1+m)).map V.str))):=e5.trans (cV.new J);have L:upd u v (.lst (((a.drop 4).take (1+m)).map V.str)) g=some (.lst ((a.take (1+n)).map V.str)):=kp a6 J;have M:upd u v (.lst (((a.drop 4).take (1+m)).map V.str)) v=some (.lst (((a.drop 4).take (1+m)).map V.str)):=aa;generalize upd u v (.lst (((a.drop 4).take (1+m)).map V.str))=H6 at l e6 L M ⊢;refine⟨_,rfl,_,rfl,_,rfl,cp l m0 (by omega) fun r H7 r0 r1 N O=>?_⟩;obtain⟨rn,rfl⟩:=fO r0;have al:=O _ _ L (l.ne_strs L);have an:=O _ _ M (l.ne_strs M);refine⟨_,_,rfl,rfl,p,c,1+rn,rfl,N,by omega,fun l3 J5 H8 T x b0 e o U=>?_⟩;have Y:=U _ _ al (N.ne_strs al);have ab:=U _ _ an (N.ne_strs an);have ap:(a.drop 4).take (1+m)≠[]:=by
  intro z;have:=congrArg List.length z;rw[aL,fc,len]at this;simp at this
 have a7:a.take (1+n)≠[]:=by
  intro z;have:=congrArg List.length z;rw[aL,len]at this;simp at this
 have as:J5≠[]:=by
  intro z;rw[z]at x;simp at x;omega
 refine⟨_,rfl,_,rfl,_,rfl,_,rfl,_,rfl,p,c,g,v,l3,_,_,J5,ai,rfl,o,Y,ab,e,by rw[aL];omega,ap,by rw[aL];omega,as,by omega,f0,f2,fun l4 ts ds up H9 b1 aC a8 a9 y few bd s=>?_⟩;have bi:=s _ _ Y (o.ne_strs Y);have bl:=s _ _ ab (o.ne_strs ab);have bm:=s _ _ e (o.ne_strs e);refine⟨_,rfl,_,rfl,_,rfl,_,rfl,(by show 4<=ao;decide),fun t ht=>k t g v l3 l4 ts _ _ J5 ds _ ⟨aa,kp bi ht,kp bl ht,kp bm ht,kp aC ht,a8.kt (ae.kt (ae.new ht))⟩ ?_ ?_ few (bd.ex (ae.new ht)) ?_⟩
 ·refine⟨⟨?_,fun w h=>ok.2 w (fM h)⟩,⟨?_,fun w h=>ok.2 w (sS (fM h))⟩,?_,T,a7,ap,as,by rw[aL];omega,by rw[aL];omega,by omega,a9,fun d hd=>(y d hd).d,by omega,fun r z=>(ED T.1 y z).irr T.1⟩
  ·exact ok.1.sublist (List.take_sublist _ _)
  ·exact ok.1.sublist ((List.take_sublist _ _).trans (List.drop_sublist _ _))
  ·intro w h1 h2;have h3:w∈a.drop 4:=fM h1;have h4:w∈a.take 4:=by
    have:a.take (1+n)=(a.take 4).take (1+n):=by rw[List.take_take];congr 1;omega
    rw[this]at h2;exact fM h2
   have:=ok.1;rw[<-ww 4 a,fQ]at this;exact this.2.2 w h4 w h3 rfl
 ·omega
 ·exact(((e6.trans O).trans U).trans s).trans (cV.new ht)
theorem dh{a:Zb}{i:Nat}{x:V}(h:(a.map V.str)[i]?=some x):∃w,a[i]?=some w/\x=.str w:=by
 rw[bD]at h;cases q:a[i]? with
 |none=>rw[q]at h;cases h
 |some r=>rw[q]at h;exact⟨r,rfl,(d4 h).symm⟩
theorem take_snoc{α:Type}{a:List α}{i:Nat}{w:α}(h:a[i]?=some w):a.take (i+1)=a.take i++[w]:=by
 obtain⟨hi,rfl⟩:=dg.mp h;rw[List.take_succ_eq_append_getElem hi]
def fy(w:Str):Bool:=!decide (w=("":Str)) && (decide (w.length<=8) && w.cps.toList.all fun c=>decide (c∈("abcdefghijklmnopqrstuvwxyz":Str).cps.toList))
theorem jB.b{w:Str}(h:jB w):fy w=true:=by
 unfold fy;have a:¬(w=("":Str)):=fun e=>by
  have:=h.lo;rw[e]at this;exact absurd this (by decide +kernel)
 rw[zzr0 a,zzr1 h.hi,Bool.not_false,kQ,kQ,List.all_eq_true];intro c f;obtain⟨g,i⟩:=h.al c f;refine zzr1 ?_;have:=yI (c-97) (by omega);have e:97+(c-97)=c:=by omega
 rw[e]at this;exact ca this
inductive sp_is_name (vs:List V)(H:Hp)(Q:VK)(E:XK):Prop
 |mk (w:Str):(vs=[.str w])->(w.length<=1000)->(∀H',ae H H'->Q (.bl (fy w)) H')->sp_is_name  vs H Q E
theorem A4{K:Za}{a:List V}{H:Hp}{Q:VK}{E:XK}(h:sp_is_name a H Q E):Do K (bJ Q) (start Ei a) H:=by
 obtain⟨w,rfl,s,k⟩:=h;refine⟨_,rfl,rfl,_,rfl,?_⟩;have t:(!decide (V.str w=V.str ("":Str)))=!decide (w=("":Str)):=by
  congr 1;by_cases e:w=("":Str)
  ·rw[zzr1 e,zzr1 (by rw[e])]
  ·rw[zzr0 e,zzr0 (fun z=>e (by injection z))]
 rw[t];refine dz (fun m=>?_) (fun m=>?_)
 ·refine⟨_,rfl,.inr ⟨w,rfl,c6 (aU s),_,_,rfl,rfl,_,rfl,?_⟩⟩;refine dz (fun n=>?_) (fun n=>?_)
  ·refine⟨_,rfl,w,rfl,fun l r=>?_⟩
   let p:Nat->List V->Hp->Prop:=fun i a j=>a=((w.cps.toList.take i).map fun c=>V.bl (decide (c∈("abcdefghijklmnopqrstuvwxyz":Str).cps.toList)))/\ae H j/\j l=some (.lst a)
   refine Aa p
    ⟨rfl,ae.new r,aa⟩ (fun i a j _ h=>h.2.2) ?_ ?_
   ·rintro a j ⟨rfl,q,f⟩;refine⟨l,w.cps.toList.map fun c=>decide (c∈("abcdefghijklmnopqrstuvwxyz":Str).cps.toList),rfl,aA.of ?_,?_⟩
    ·rw[f,eZ];have:w.cps.toList.take w.cps.size=w.cps.toList:=by
      rw[pB];simp
     rw[this]
     rfl
    ·have:=k j q;have g:decide (w.length<=8)=true:=zzr1 (by have:=of_decide_eq_true n;omega);unfold fy at this;rw[m,g,kQ,kQ]at this;rw[mP];exact this
   ·rintro i a j c u hi ⟨rfl,q,f⟩;refine gN (pO ?_);refine⟨_,rfl,c,_,rfl,rfl,f,?_,uf hi ⟨?_,?_,aa⟩⟩
    ·rw[aq,aL];have:w.length=w.cps.toList.length:=aZ w;exact aU (by omega)
    ·rw[take_snoc (by rw[<-u];simp),aK]
     rfl
    ·intro b o e;rw[am (ah e r)];exact q b o e
  ·have:=k H (ae.refl H);have g:decide (w.length<=8)=false:=zzr0 (fun z=>n (zzr1 (by omega)));unfold fy at this;rw[m,g,kQ,y0]at this;exact this
 ·have:=k H (ae.refl H);unfold fy at this;rw[Bool.eq_false_iff.mpr m,y0]at this;exact this
def bU(ws:Zb):List (eE×V):=ws.foldl (fun acc w=>gU acc (.inr w) (.bl true)) []
theorem gX(a:Zb)(w:Str):bU (a++[w])=gU (bU a) (.inr w) (.bl true):=by
 unfold bU;rw[sR]
 rfl
theorem zG{κ:Type}[DecidableEq κ](a:List (κ×V))(k:κ)(v:V):(gU a k v).length<=a.length+1:=by
 unfold gU;split
 ·rw[aq];omega
 ·rw[aV];exact aG _
theorem lm{α:Type}(P:List α->Prop)(e:P [])(f:∀ws w,P ws->P (ws++[w]))(ws:List α):P ws:=by
 have:∀n (ws:List α),ws.length=n->P ws:=by
  intro n
  induction n with
  |zero=>intro ws h;rw[List.length_eq_zero_iff.mp h];exact e
  |succ n g =>
   intro ws h;have a:ws≠[]:=fun z=>by rw[z]at h;cases h
   rw[<-List.dropLast_concat_getLast a];exact f _ _ (g _ (by rw[List.length_dropLast,h];rfl))
 exact this _ ws rfl
theorem nr(a:Zb):(bU a).length<=a.length:=by
 refine lm (fun a=>(bU a).length<=a.length) (aG _) (fun a w h=>?_) a;show(bU (a++[w])).length<=(a++[w]).length;rw[gX,aV];have:=zG (bU a) (.inr w) (.bl true);show _<=a.length+1;omega
theorem Bm(a:Zb)(x:Str):eh (bU a) (.inr x)=if x∈a then some (.bl true)else none:=by
 refine lm (fun a=>eh (bU a) (.inr x)=if x∈a then some (.bl true)else none) rfl (fun a w h=>?_) a
 show eh (bU (a++[w])) (.inr x)=_;rw[gX,y_,h];by_cases e:x=w
 ·subst e;rw[if_pos rfl,if_pos (by simp)]
 ·have f:¬((Sum.inr x:eE)=.inr w):=fun z=>e (by injection z);rw[if_neg f];by_cases m:x∈a
  ·rw[if_pos m,if_pos (cL _ m)]
  ·rw[if_neg m,if_neg (fun z=>by rcases bu.mp z with z|z;exact m z;exact e (by simpa using z))]
theorem jP(a:Zb)(x:Str):(eh (bU a) (.inr x)).isSome=decide (x∈a):=by
 rw[Bm];by_cases m:x∈a
 ·rw[if_pos m,zzr1 m];rfl
 ·rw[if_neg m,zzr0 m];rfl
inductive sp_as_keys(K:Za)(vs:List V)(H:Hp)(Q:VK)(E:XK):Prop
 |mk (l:Addr) (ws:Zb):(vs=[.ref l])->(aA K H l (ws.map V.str))->(ws.length<=1000)->(∀d,H d=none->Q (.ref d) (upd H d (.dK (bU ws))))->sp_as_keys K vs H Q E
theorem A7{K:Za}{o:List V}{H:Hp}{Q:VK}{E:XK}(h:sp_as_keys K o H Q E):Dt K (bJ Q) (start Em o) H:=by
 obtain⟨l,j,rfl,q,t,k⟩:=h;refine fun d p=>?_;have a:∀f,aA K (upd H d (.dK f)) l (j.map V.str):=fun f=>(ae.new p).seq q;refine⟨_,rfl,l,rfl,⟨_,a _⟩,?_⟩
 let n:Nat->L2.St->Hp->Prop:=fun i σ m=>∃x,σ=[some (.ref l),some (.ref d),x]/\m=upd H d (.dK (bU (j.take i)))
 refine gZ (xs:=j.map V.str) n ⟨_,rfl,rfl⟩ (fun i σ m _ r=>by obtain⟨_,_,e⟩:=r;exact by rw[e];exact a _) ?_ ?_
 ·rintro i x σ m hi ⟨y,rfl,rfl⟩;obtain⟨w,s,rfl⟩:=dh hi;have g:(bU (j.take i)).length<ao:=aU (aP (nr _) (by rw[aL];omega));refine⟨_,rfl,_,rfl,d,_,rfl,.inl ⟨_,.inr w,aa,rfl,g,rfl⟩,_,rfl,?_⟩;rw[ss,take_snoc s,gX]
 ·rintro σ m ⟨x,rfl,rfl⟩;rw[aq,cO];exact⟨_,rfl,k d p⟩
def wc(most:Nat):Nat->List Str->List Str->Option Nat
 |_,_,[]=>none
 |i,ahead,n::ns=>if i=most∨n∈ahead∨fy n=false then some i else wc most (i+1) (ahead++[n]) ns
def aw(names:Zb)(most:Nat)(taken:Zb):Option Nat:=if names=[]then some 0 else wc most 0 taken names
def oV:Option Nat->V
 |none=>.non
 |some i=>.int i
inductive sp_first_wrong_name(K:Za)(vs:List V)(H:Hp)(Q:VK)(E:XK):Prop
 |mk (l t:Addr) (names taken:Zb) (most:Nat):(vs=[.ref l,.int most,.ref t])->(aA K H l (names.map V.str))->(aA K H t (taken.map V.str))->(names.length+taken.length<=1000)->((∀w∈names,w.length<=1000))->(∀H',ae H H'->Q (oV (aw names most taken)) H')->sp_first_wrong_name K vs H Q E
theorem qG{K:Za}{H:Hp}{Q:VK}{E:XK}{l:Addr}{ws:Zb}(a:aA K H l (ws.map V.str))(e:ws.length<=1000)(k:∀d,H d=none->Q (.ref d) (upd H d (.dK (bU ws)))):sp_as_keys K [.ref l] H Q E:=by
 exact⟨l,ws,rfl,a,e,k⟩
theorem DS{H:Hp}{Q:VK}{E:XK}{w:Str}(e:w.length<=1000)(k:∀a,ae H a->Q (.bl (fy w)) a):sp_is_name [.str w] H Q E:=by
 exact⟨w,rfl,e,k⟩
theorem mo{K:Za}{N:List V}{H:Hp}{Q:VK}{E:XK}(h:sp_first_wrong_name K N H Q E):m8 K sp_is_name (sp_as_keys K) (bJ Q) (start nF N) H:=by
 obtain⟨l,t,names,taken,a,rfl,v,Y,hz,hw,k⟩:=h;refine⟨_,rfl,.inl ⟨l,_,rfl,.inl v,rfl,_,rfl,?_⟩⟩;by_cases B:names=[]
 ·subst B;refine bI ?_;have:=k H (ae.refl H);exact this
 have e0:decide (V.int ((names.map V.str).length:Nat)=V.int 0)=false:=zzr0 (fun z=>B (by
  injection z with z;rw[aq]at z;exact List.length_eq_zero_iff.mp (by omega)))
 rw[e0];refine bC ?_;have r:∀H',ae H H'->Q (oV (wc a 0 taken names)) H':=by
  unfold aw at k;rw[if_neg B]at k;exact k
 refine⟨_,rfl,qG Y (by omega) fun d C=>?_⟩;refine⟨_,rfl,l,rfl,⟨_,(ae.new C).seq v⟩,?_⟩
 let D:Nat->L2.St->Hp->Prop:=fun i σ H'=>∃x y,σ=[some (.ref l),some (.int a),some (.ref t),some (.ref d),x,y]/\ae H H'/\H' d=some (.dK (bU (taken++names.take i)))/\wc a i (taken++names.take i) (names.drop i)=wc a 0 taken names
 refine fz (xs:=names.map V.str) D
  ⟨_,_,rfl,ae.new C,by rw[List.take_zero,dA];exact aa,by rw[List.take_zero,dA,kT]⟩ (fun i σ H' _ zq=>by obtain⟨_,_,_,n,_⟩:=zq;exact n.seq v) ?_ ?_
 ·rintro i x σ H' q hi ⟨x4,x5,rfl,n,G,hf⟩ O;obtain⟨w,f,rfl⟩:=dh hi;have I:i<names.length:=(dg.mp f).1;have ed:names.drop i=w::names.drop (i+1):=by
   rw[j4 I];congr 1;exact(dg.mp f).2
  rw[ed]at hf;have j:upd H' q (.tup [.int i,.str w]) d=some (.dK (bU (taken++names.take i))):=kp G O;have g:ae H (upd H' q (.tup [.int i,.str w])):=n.trans (ae.new O);have J:w.length<=1000:=hw w (ca f);refine⟨q,_,rfl,cq.of aa,rfl,_,_,rfl,_,_,rfl,rfl,?_⟩;generalize upd H' q (.tup [.int i,.str w])=T at j g ⊢;refine⟨_,rfl,_,rfl,rfl,_,rfl,?_⟩;by_cases s:i=a
  ·have L:decide (V.int (i:Nat)=V.int (a:Nat))=true:=zzr1 (by rw[s]);rw[L];refine bI (bI ?_);refine⟨_,rfl,?_⟩;have:=r T g;rw[<-hf]at this;unfold wc at this;rw[if_pos (.inl s)]at this;exact this
  have L:decide (V.int (i:Nat)=V.int (a:Nat))=false:=zzr0 (fun z=>s (by injection z with z;omega));rw[L];refine bC ?_;refine⟨_,rfl,_,rfl,d,_,rfl,.inl ⟨_,.inr w,.inl j,rfl,rfl⟩,_,rfl,?_⟩;rw[jP];by_cases u:w∈taken++names.take i
  ·rw[zzr1 u];refine bI (bI ?_);refine⟨_,rfl,?_⟩;have:=r T g;rw[<-hf]at this;unfold wc at this;rw[if_pos (.inr (.inl u))]at this;exact this
  rw[zzr0 u];refine bC ?_;refine⟨_,rfl,DS J fun H3 m=>⟨_,rfl,?_⟩⟩;have M:=m _ _ j;cases U:fy w with
  |false =>
   refine bI ?_;refine⟨_,rfl,?_⟩;have:=r H3 (g.trans m);rw[<-hf]at this;unfold wc at this;rw[if_pos (.inr (.inr U))]at this;exact this
  |true =>
   refine bC ?_;have p:(bU (taken++names.take i)).length<ao:=aU (aP (nr _) (by rw[aV,aL];omega));refine⟨_,rfl,_,rfl,d,_,rfl,.inl ⟨_,.inr w,M,rfl,p,rfl⟩,_,_,rfl,?_,?_,?_⟩
   ·intro b o e;rw[am (ah e C)];exact m _ _ (g _ _ e)
   ·rw[aa,take_snoc f,<-dU,gX]
   ·rw[<-hf,take_snoc f,<-dU]
    conv=>rhs;unfold wc
    rw[if_neg];rintro(z|z|z)
    ·exact s z
    ·exact u z
    ·rw[U]at z;cases z
 ·rintro σ H' ⟨x,y,rfl,n,_,hf⟩;rw[aq,kR]at hf;have:=r H' n;rw[<-hf]at this;exact this
theorem zW{a:Nat}:∀(e ahead:Zb) (i:Nat),i+e.length<=a->(ahead++e).Nodup->(∀w∈e,jB w)->wc a i ahead e=none
 |[],_,_,_,_,_=>rfl
 |n::e,ahead,i,h,f,g=>by
  rw[bP]at h;unfold wc;rw[if_neg]
  ·refine zW e (ahead++[n]) (i+1) (by omega) (by rw[dU];exact f) fun w j=>g w (bQ _ j)
  ·rintro(z|z|z)
   ·omega
   ·rw[fQ]at f;exact f.2.2 n z n (bR) rfl
   ·rw[(g n bR).b]at z;cases z
theorem h9{a:Nat}{e taken:Zb}(f:e≠[])(i:e.length<=a)(g:(taken++e).Nodup)(h:∀w∈e,jB w):aw e a taken=none:=by
 unfold aw;rw[if_neg f];exact zW e taken 0 (by omega) g h
theorem bb{n:Nat}(h:n<=9000):n<ao:=wQ h (by decide)
def uZ(x:Str):TK:=.k (some (.inr x))
def Ge(sg:Zb):TK:=.t (sg.map uZ)
def yu(d:av):TK:=.t [uZ d.a,Ge d.sg,uZ d.b]
theorem sC{x y:Str}(h:uZ x=uZ y):x=y:=by
 unfold uZ at h;injection h with h;injection h with h;injection h
theorem rC:∀{x y:Zb},x.map uZ=y.map uZ->x=y
 |[],[],_=>rfl
 |[],_::_,h=>by cases h
 |_::_,[],h=>by cases h
 |a::x,b::y,h=>by
  rw[aS,aS]at h;injection h with e f;rw[sC e,rC f]
theorem CS{x y:Zb}(h:Ge x=Ge y):x=y:=by
 unfold Ge at h;injection h with h;exact rC h
theorem HK{x y:av}(h:yu x=yu y):x=y:=by
 unfold yu at h;injection h with h;injection h with a h;injection h with e h;injection h with f h;cases x;cases y;simp only at *;rw[sC a,CS e,sC f]
theorem AA(xs:Zb):TK.depths (xs.map uZ)=0:=by
 induction xs with
 |nil=>rfl
 |cons x xs a=>rw[aS];show max (TK.depth (uZ x)) (TK.depths _)=0;rw[a];rfl
theorem vH(a:Zb):(Ge a).depth=1:=by
 show TK.depths (a.map uZ)+1=1;rw[AA]
theorem pR(d:av):(yu d).depth=2:=by
 show max (TK.depth (uZ d.a)) (max (TK.depth (Ge d.sg)) (max (TK.depth (uZ d.b)) 0))+1=2;rw[vH]
 rfl
theorem Cg{H:Hp}:∀xs:List Str,TKAts H (xs.map uZ) (xs.map V.str)
 |[]=>by show TKAts H [] [];unfold TKAts;rfl
 |x::xs=>by
  rw[aS,aS];unfold TKAts;refine⟨_,_,rfl,?_,Cg xs⟩;unfold uZ ir
  rfl
theorem AB{H:Hp}(x:Str):ir H (uZ x) (.str x):=by unfold uZ ir;rfl
theorem SignAt.tk{H:Hp}{s:Addr}{a:Zb}(h:SignAt H s a):ir H (Ge a) (.ref s):=by
 unfold Ge ir;exact⟨s,_,rfl,h,Cg _⟩
theorem fm.tk{H:Hp}{t:Addr}{d:av}(h:fm H t d):ir H (yu d) (.ref t):=by
 obtain⟨s,a,e⟩:=h;unfold yu ir;refine⟨t,_,rfl,a,?_⟩;unfold TKAts;refine⟨_,_,rfl,AB _,?_⟩;unfold TKAts;refine⟨_,_,rfl,SignAt.tk e,?_⟩;unfold TKAts;refine⟨_,_,rfl,AB _,?_⟩;unfold TKAts
 rfl
section
variable{κ:Type}[DecidableEq κ]
def jj(ks:List κ):List (κ×V):=ks.foldl (fun acc k=>gU acc k (.bl true)) []
theorem kz(a:List κ)(w:κ):jj (a++[w])=gU (jj a) w (.bl true):=by
 unfold jj;rw[sR]
 rfl
theorem v7(a:List κ):(jj a).length<=a.length:=by
 refine lm (fun a=>(jj a).length<=a.length) (aG _) (fun a w h=>?_) a;show(jj (a++[w])).length<=(a++[w]).length;rw[kz,aV];have:=zG (jj a) w (.bl true);show _<=a.length+1;omega
theorem zR(a:List κ)(x:κ):(eh (jj a) x).isSome=decide (x∈a):=by
 refine lm (fun a=>(eh (jj a) x).isSome=decide (x∈a)) rfl (fun a w h=>?_) a;show(eh (jj (a++[w])) x).isSome=_;rw[kz,y_];by_cases e:x=w
 ·subst e;rw[if_pos rfl,zzr1 (by simp)]
  rfl
 ·rw[if_neg e,h];by_cases m:x∈a
  ·rw[zzr1 m,zzr1 (cL _ m)]
  ·rw[zzr0 m,zzr0 (fun z=>by rcases bu.mp z with z|z;exact m z;exact e (by simpa using z))]
end
theorem sH{d:av}{a:List av}:yu d∈a.map yu↔d∈a:=by
 constructor
 ·intro h;obtain⟨x,hx,e⟩:=aR.mp h;rw[<-HK e];exact hx
 ·exact pk
def nE(K:Za)(H:Hp)(v:V)(sg:Zb):Prop:=∃s,v=.ref s/\cq K H s (sg.map V.str)
theorem ae.sqT{K:Za}{H f:Hp}{a:Addr}{xs:List V}(e:ae H f)(h:cq K H a xs):cq K f a xs:=by
 rcases h with(h|⟨o,h⟩)|h
 ·exact .inl (.inl (e _ _ h))
 ·exact .inl (.inr ⟨o,e _ _ h⟩)
 ·exact .inr h
theorem Signs.same{K:Za}{H f:Hp}(e:ae H f){xs:List V}{a:List (List Str)}(h:Paired (nE K H) xs a):Paired (nE K f) xs a :=
 Paired.mapP h fun _ _ ⟨s,g,i⟩=>⟨s,g,ae.sqT e i⟩
def vo(sg:Zb):DT:=.t (sg.map bx)
theorem CT{x y:Zb}(h:vo x=vo y):x=y:=by
 unfold vo at h;injection h with h;exact gW h
theorem jl(a:Zb):(vo a).depth=1:=by
 show DT.depths (a.map bx)+1=1;rw[bZ]
theorem DX(a:List (List Str)):DT.depths (a.map vo)<=8:=by
 induction a with
 |nil=>exact cf _
 |cons x xs e=>rw[aS];show max (DT.depth (vo x)) (DT.depths _)<=8;rw[jl];omega
theorem Signs.dIns{K:Za}{H:Hp}{xs:List V}{a:List (List Str)}(h:Paired (nE K H) xs a):DIns K H (a.map vo) xs:=by
 induction h with
 |nil=>show DIns K H [] [];unfold DIns;rfl
 |cons q _ f =>
  obtain⟨s,e,r⟩:=q;rw[aS];unfold DIns;refine⟨_,_,rfl,?_,f⟩;rw[e];exact f_ r
theorem CJ{d:Zb}{a:List (List Str)}:vo d∈a.map vo↔d∈a:=by
 constructor
 ·intro h;obtain⟨x,hx,e⟩:=aR.mp h;rw[<-CT e];exact hx
 ·exact pk
theorem Paired.app{α β:Type}{R:α->β->Prop}{a:List α}{b:List β}{c:List α}{d:List β}(g:Paired R a b)(h:Paired R c d):Paired R (a++c) (b++d):=by
 induction g with
 |nil=>exact h
 |cons r _ e=>exact .cons r e
def KM(w:Str):List Str:=[("ask":Str),w]
def Kr(w:Str):List Str:=[("say":Str),w]
def bB(J0 J4:Zb):List (List Str):=J0.map KM++J4.map Kr++[aJ]
theorem tV{K:Za}{h:Str}{σ:L2.St}{H:Hp}{a l:Addr}{j:Zb}{Q:Hp->Prop}(C:H a=some (.lst (j.map V.str)))(B:H l=none)(L:j.length<=1000)
  (k:∀(xs:List V) (f:Hp),Paired (nE K f) xs (j.map fun w=>[h,w])->ae H f->f l=some (.lst xs)->Q f) :
  lO 1 [] σ (IK K a) U0 jx (d7 (ba (tC (.str h)) V0)) H l Q:=by
 let r:Nat->List V->Hp->Prop:=fun i g f=>Paired (nE K f) g ((j.take i).map fun w=>[h,w])/\ae H f/\f l=some (.lst g)
 refine cU (xs:=j.map V.str) r
  ⟨.nil,ae.new B,aa⟩ (fun i g f _ D=>by obtain⟨_,E,G⟩:=D;exact⟨G,aA.of (E _ _ C)⟩) ?_ ?_
 ·rintro g f ⟨m,u,n⟩;rw[aq,cO]at m;exact k g f m u n
 ·rintro i g f x hx hi ⟨m,u,n⟩;obtain⟨w,I,rfl⟩:=dh hx;refine gN (pO ?_);refine⟨_,rfl,(by show 2<=ao;decide),fun t p=>⟨kp n p,?_,uf hi ⟨?_,?_,aa⟩⟩⟩
  ·rw[Paired.length m,aq,aL];exact aU (by omega)
  ·rw[take_snoc I,aK];have q:BO (upd f t (.tup [.str h,.str w])) (upd (upd f t (.tup [.str h,.str w])) l (.lst (g++[.ref t]))):=jz (kp n p);have y:BO f (upd (upd f t (.tup [.str h,.str w])) l (.lst (g++[.ref t]))):=(ae.kt (ae.new p)).trans q;refine Paired.app (Paired.mapP m fun v M ⟨s,J,e2⟩=>⟨s,J,?_⟩) (.cons ⟨t,rfl,cq.of (q _ _ aa)⟩ .nil);rcases e2 with(e2|⟨o,e2⟩)|e2
   ·exact .inl (.inl (y _ _ e2))
   ·refine .inl (.inr ⟨o,?_⟩);rw[am (fun z=>by rw[z,n]at e2;cases e2)];exact kp e2 p
   ·exact .inr e2
  ·intro b o e;rw[am (ah e B)];exact kp (u _ _ e) p
inductive sp_door_signs(K:Za)(vs:List V)(H:Hp)(Q:VK)(E:XK):Prop
 |mk (l1 l2:Addr) (J0 J4:Zb):(vs=[.ref l1,.ref l2])->(H l1=some (.lst (J0.map V.str)))->(H l2=some (.lst (J4.map V.str)))->(J0.length<=100)->(J4.length<=100)->(∀(l:Addr) (xs:List V) (H':Hp),Paired (nE K H') xs (bB J0 J4)->ae H H'->H' l=some (.lst xs)->Q (.ref l) H')->sp_door_signs K vs H Q E
theorem vk{K:Za}{st:Addr}(i:∀H,cq K H st (aJ.map V.str)){n:List V}{H:Hp}{Q:VK}{E:XK}(h:sp_door_signs K n H Q E):xk K st (bJ Q) (start yN n) H:=by
 obtain⟨y,z,L,M,rfl,o,p,B,C,k⟩:=h;refine⟨_,rfl,y,rfl,⟨_,aA.of o⟩,fun a D=>?_⟩;refine tV o D (by omega) fun f N q j G=>?_;refine⟨_,rfl,z,rfl,⟨_,aA.of (j _ _ p)⟩,fun b I=>?_⟩;refine tV (j _ _ p) I (by omega) fun g r s l J=>?_;have t:f.length<=100:=by rw[Paired.length q,aq];exact B
 have u:g.length<=100:=by rw[Paired.length s,aq];exact C
 refine⟨a,b,f,g,rfl,rfl,l _ _ G,J,c6 (aU (by omega)),fun c v=>?_⟩;refine⟨(by show 1<=ao;decide),fun d m=>?_⟩;refine⟨c,d,_,_,rfl,rfl,kp aa m,aa,?_,fun e w=>k e _ _ ?_ ?_ aa⟩
 ·rw[aV];show _+1<=ao;exact c6 (aU (by omega))
 ·have x:ae r (upd (upd (upd r c (.lst (f++g))) d (.lst [.ref st])) e (.lst (f++g++[.ref st]))):=((ae.new v).trans (ae.new m)).trans (ae.new w);exact Paired.app (Paired.app (Signs.same (l.trans x) q) (Signs.same x s)) (.cons ⟨st,rfl,i _⟩ .nil)
 ·exact(((j.trans l).trans (ae.new v)).trans (ae.new m)).trans (ae.new w)
def u8(J5:Zb)(sgs:List (List Str)):Nat->List av->List av->Option Nat
 |_,_,[]=>none
 |i,ahead,d::ds=>if i=2000∨d∈ahead∨d.a∉J5∨d.sg∉sgs∨d.b∉J5 then some i else u8 J5 sgs (i+1) (ahead++[d]) ds
inductive sp_first_wrong_door(K:Za)(vs:List V)(H:Hp)(Q:VK)(E:XK):Prop
 |mk (l l3 sl:Addr) (ts:Ze) (ds:List av) (J5:Zb) (xs:List V) (sgs:List (List Str)):(vs=[.ref l,.ref l3,.ref sl])->(H l=some (.lst (ts.map V.ref)))->(dE H ts ds)->(H l3=some (.lst (J5.map V.str)))->(J5.length<=1000)->(H sl=some (.lst xs))->(Paired (nE K H) xs sgs)->(ds.length<=9000)->(∀H',ae H H'->Q (oV (u8 J5 sgs 0 [] ds)) H')->sp_first_wrong_door K vs H Q E
theorem dj{a:Ze}{i:Nat}{x:V}(h:(a.map V.ref)[i]?=some x):∃w,a[i]?=some w/\x=.ref w:=by
 rw[bD]at h;cases q:a[i]? with
 |none=>rw[q]at h;cases h
 |some r=>rw[q]at h;exact⟨r,rfl,(d4 h).symm⟩
theorem mq{K:Za}{vs:List V}{H:Hp}{Q:VK}{E:XK}(h:sp_first_wrong_door K vs H Q E):m9 K (sp_as_keys K) (bJ Q) (start nG vs) H:=by
 obtain⟨l,l3,sl,ts,n,v,xs,j,rfl,hl,B,h3,hr,U,Y,hz,k⟩:=h;refine⟨_,rfl,qG (aA.of h3) hr fun d hd=>?_⟩;refine fun e he=>?_;have C:ae H (upd (upd H d (.dK (bU v))) e (.dT [])):=(ae.new hd).trans (ae.new he);have ab:H e=none:=(ae.new hd).free he;refine⟨_,rfl,l,rfl,⟨_,aA.of (C _ _ hl)⟩,?_⟩
 let ai:Nat->L2.St->Hp->Prop:=fun i σ H'=>∃x y,σ=[some (.ref l),some (.ref l3),some (.ref sl),some (.ref d),some (.ref e),x,y]/\ae H H'/\H' d=some (.dK (bU v))/\H' e=some (.dT (jj ((n.take i).map yu)))/\u8 v j i (n.take i) (n.drop i)=u8 v j 0 [] n
 refine fz (xs:=ts.map V.ref) ai
  ⟨_,_,rfl,C,kp aa he,aa,rfl⟩ (fun i σ H' _ zq=>by obtain⟨_,_,_,D,_⟩:=zq;exact aA.of (D _ _ hl)) ?_ ?_
 ·rintro i x σ H' q hi ⟨x5,x6,rfl,D,aj,ak,hf⟩ hq;obtain⟨t,ht,rfl⟩:=dj hi;obtain⟨dr,p,al⟩:=Paired.getL B ht;have an:i<n.length:=(dg.mp p).1;have ed:n.drop i=dr::n.drop (i+1):=by
   rw[j4 an];congr 1;exact(dg.mp p).2
  rw[ed]at hf;have f:ae H (upd H' q (.tup [.int i,.ref t])):=D.trans (ae.new hq);have g:upd H' q (.tup [.int i,.ref t]) d=_:=kp aj hq;have r:upd H' q (.tup [.int i,.ref t]) e=_:=kp ak hq;refine⟨q,_,rfl,cq.of aa,rfl,_,_,rfl,_,_,rfl,rfl,?_⟩;generalize upd H' q (.tup [.int i,.ref t])=H2 at g r f ⊢;have w:=al.kt (ae.kt f);have ap:si K H2 (yu dr) (.ref t):=ir.isIn 8 (by rw[pR];decide) w.tk;have G:(yu dr).depth<=8:=by rw[pR];decide
  obtain⟨s,u,I⟩:=w;have m:(i=2000∨dr∈n.take i∨dr.a∉v∨dr.sg∉j∨dr.b∉v)->Q (.int i) H2:=by
   intro c;have:=k H2 f;rw[<-hf]at this;unfold u8 at this;rw[if_pos c]at this;exact this
  refine⟨_,rfl,rfl,_,rfl,?_⟩;by_cases L:i=2000
  ·have e1:decide (V.int (i:Nat)=V.int 2000)=true:=zzr1 (by rw[L];rfl);rw[e1];exact bI (bI ⟨_,rfl,m (.inl L)⟩)
  have e1:decide (V.int (i:Nat)=V.int 2000)=false:=zzr0 (fun z=>L (by injection z with z;omega));rw[e1];refine bC ?_;refine⟨_,rfl,_,rfl,e,_,rfl,.inr ⟨_,yu dr,t,.inl r,rfl,ap,G,rfl⟩,_,rfl,?_⟩;rw[zR];by_cases M:dr∈n.take i
  ·rw[zzr1 (sH.mpr M)];exact bI ⟨_,rfl,m (.inr (.inl M))⟩
  rw[zzr0 (fun z=>M (sH.mp z))];refine bC ?_;refine⟨_,rfl,.inr (.inl ⟨t,_,0,_,rfl,rfl,cq.of u,rfl,_,rfl,d,_,rfl,.inl ⟨_,.inr dr.a,.inl g,rfl,rfl⟩,_,rfl,?_⟩)⟩;rw[jP];by_cases N:dr.a∈v;rotate_left
  ·rw[zzr0 N];exact bI (bI ⟨_,rfl,m (.inr (.inr (.inl N)))⟩)
  rw[zzr1 N];refine bC ?_;refine⟨_,rfl,.inr (.inl ⟨t,_,1,_,rfl,rfl,cq.of u,rfl,_,rfl,vo dr.sg,j.map vo,sl,xs,f_ (cq.of I),rfl,.inl (aA.of (f _ _ U)),Signs.dIns (Signs.same f Y),by rw[jl];decide,DX _,_,rfl,?_⟩)⟩;rw[if_pos rfl];by_cases O:dr.sg∈j;rotate_left
  ·rw[zzr0 (fun z=>O (CJ.mp z))];exact bI (bI ⟨_,rfl,m (.inr (.inr (.inr (.inl O))))⟩)
  rw[zzr1 (CJ.mpr O)];refine bC ?_;refine⟨_,rfl,.inr (.inl ⟨t,_,2,_,rfl,rfl,cq.of u,rfl,_,rfl,d,_,rfl,.inl ⟨_,.inr dr.b,.inl g,rfl,rfl⟩,_,rfl,?_⟩)⟩;rw[jP];by_cases T:dr.b∈v;rotate_left
  ·rw[zzr0 T];exact bI ⟨_,rfl,m (.inr (.inr (.inr (.inr T))))⟩
  rw[zzr1 T];refine bC ?_;have J:(jj ((n.take i).map yu)).length<ao:=bb (aP (v7 _) (by rw[aq,aL];omega));refine⟨_,rfl,_,rfl,e,_,rfl,.inr ⟨_,yu dr,t,r,rfl,fm.tk ⟨s,u,I⟩,G,J,rfl⟩,_,_,rfl,?_,?_,?_,?_⟩
  ·intro b o q;rw[am (ah q ab)];exact f _ _ q
  ·rw[am (fun z=>by rw[z,r]at g;cases g)];exact g
  ·rw[aa,take_snoc p,aK];exact congrArg (fun z=>some (HO.dT z)) (kz _ _).symm
  ·rw[<-hf,take_snoc p]
   conv=>rhs;unfold u8
   rw[if_neg];rintro(z|z|z|z|z)
   ·exact L z
   ·exact M z
   ·exact z N
   ·exact z O
   ·exact z T
 ·rintro σ H' ⟨x,y,rfl,D,_,_,hf⟩;have:=k H' D;rw[<-hf,aq,Paired.length B,kR]at this;exact this
theorem zX{g:Zb}{e:List (List Str)}:∀(f ahead:List av) (i:Nat),i+f.length<=2000->(ahead++f).Nodup->(∀d∈f,d.a∈g/\d.sg∈e/\d.b∈g)->u8 g e i ahead f=none
 |[],_,_,_,_,_=>rfl
 |n::k,ahead,i,l,h,j=>by
  rw[bP]at l;unfold u8;rw[if_neg]
  ·refine zX k (ahead++[n]) (i+1) (by omega) (by rw[dU];exact h) fun w m=>j w (bQ _ m)
  ·have:=j n bR;rintro(z|z|z|z|z)
   ·omega
   ·rw[fQ]at h;exact h.2.2 n z n (bR) rfl
   ·exact z this.1
   ·exact z this.2.1
   ·exact z this.2.2
structure Lists(H:Hp)(l1 l2 l3 l4:Addr)(ts:Ze)(J0 J4 J5:Zb)(ds:List av):Prop where
 a1:H l1=some (.lst (J0.map V.str))
 a2:H l2=some (.lst (J4.map V.str))
 a3:H l3=some (.lst (J5.map V.str))
 a4:H l4=some (.lst (ts.map V.ref))
 ds:dE H ts ds
theorem Lists.same{H a:Hp}{f g l3 i:Addr}{j:Ze}{k l m:Zb}{n:List av}(h:Lists H f g l3 i j k l m n)(e:ae H a):Lists a f g l3 i j k l m n :=
 ⟨e _ _ h.a1,e _ _ h.a2,e _ _ h.a3,e _ _ h.a4,h.ds.kt (ae.kt e)⟩
theorem qk{a:Zb}(h:eT a):∀w∈a,w.length<=1000:=fun w e=>aP (h.2 w e).hi (by decide)
section
variable{κ ι:Type}[DecidableEq κ]{e:ι->κ}
def dX(e:ι->κ)(ps:List (ι×Addr)):List (κ×V):=ps.map fun x=>(e x.1,V.ref x.2)
theorem oX(inj:∀x y,e x=e y->x=y){i:ι}:∀{a:List (ι×Addr)},i∉a.map (·.1)->eh (dX e a) (e i)=none
 |[],_=>rfl
 |x::a,h=>by
  rw[aS,bw]at h;show eh ((e x.1,V.ref x.2)::dX e a) (e i)=none;rw[dL (fun z=>h (.inl (inj _ _ z).symm))];exact oX inj (fun z=>h (.inr z))
theorem fX(inj:∀x y,e x=e y->x=y){i:ι}{a:Addr}:∀{f:List (ι×Addr)},(f.map (·.1)).Nodup->(i,a)∈f->eh (dX e f) (e i)=some (.ref a)
 |[],_,h=>by cases h
 |x::f,g,h=>by
  rw[aS,jw]at g;show eh ((e x.1,V.ref x.2)::dX e f) (e i)=_;rcases bw.mp h with h|h
  ·rw[<-h];exact d5 rfl
  ·rw[dL (fun z=>g.1 (by rw[inj _ _ z];exact aR.mpr ⟨_,h,rfl⟩))];exact fX inj g.2 h
theorem v6(f:List (ι×Addr))(i:ι)(a:Addr):dX e (f++[(i,a)])=dX e f++[(e i,.ref a)]:=by
 unfold dX;rw[aK]
 rfl
end
structure DL{ι:Type}(H0 H:Hp)(d:Addr)(ps:List (ι×Addr)):Prop where
 nd:(ps.map (·.1)).Nodup
 na:(ps.map (·.2)).Nodup
 fr:∀x∈ps,H0 x.2=none
 frd:H0 d=none
 ned:∀x∈ps,x.2≠d
 same:ae H0 H
theorem DL.snoc{ι:Type}{f H k:Hp}{d:Addr}{g:List (ι×Addr)}{i:ι}{a:Addr}(h:DL f H d g)(hi:i∉g.map (·.1))(l:∀x∈g,x.2≠a)(m:f a=none)(n:a≠d)(s:ae f k):DL f k d (g++[(i,a)]):=by
 refine⟨?_,?_,?_,h.frd,?_,s⟩
 ·rw[aK,fQ];refine⟨h.nd,by simp,fun x hx y j e=>?_⟩;have:y=i:=by simpa using j
  exact hi (by rw[<-this,<-e];exact hx)
 ·rw[aK,fQ];refine⟨h.na,by simp,fun x hx y j e=>?_⟩;have:y=a:=by simpa using j
  obtain⟨z,o,rfl⟩:=aR.mp hx;exact l z o (e.trans this)
 ·intro x hx;rcases bu.mp hx with hx|hx
  ·exact h.fr x hx
  ·have:x=(i,a):=by simpa using hx
   rw[this];exact m
 ·intro x hx;rcases bu.mp hx with hx|hx
  ·exact h.ned x hx
  ·have:x=(i,a):=by simpa using hx
   rw[this];exact n
theorem FQ{ι:Type}:∀{a:List (ι×Addr)},(a.map (·.2)).Nodup->∀{x y:ι×Addr},x∈a->y∈a->x.2=y.2->x=y
 |[],_,x,_,h,_,_=>by cases h
 |p::a,f,x,y,hx,g,e=>by
  rw[aS,jw]at f;rcases bw.mp hx with hx'|hx'<;>rcases bw.mp g with hy'|hy'
  ·rw[hx',hy']
  ·exact absurd (aR.mpr ⟨y,hy',by rw[<-e,hx']⟩) f.1
  ·exact absurd (aR.mpr ⟨x,hx',by rw[e,hy']⟩) f.1
  ·exact FQ f.2 hx' hy' e
theorem kA:∀x y:Str,(Sum.inr x:eE)=Sum.inr y->x=y:=fun x y h=>by injection h
def cG(ds:List av)(r:Str):List av:=ds.filter fun d=>decide (d.a=r)
inductive sp_doors_by_start (vs:List V)(H:Hp)(Q:VK)(E:XK):Prop
 |mk (l3 l4:Addr) (ts:Ze) (J5:Zb) (ds:List av):(vs=[.ref l3,.ref l4])->(H l3=some (.lst (J5.map V.str)))->(H l4=some (.lst (ts.map V.ref)))->(dE H ts ds)->(J5.Nodup)->(J5.length<=1000)->(ds.length<=9000)->((∀d∈ds,d.a∈J5))->(∀(d:Addr) (ps:List (Str×Addr)) (H':Hp),ps.map (·.1)=J5->H' d=some (.dK (dX Sum.inr ps))->(∀x∈ps,∃us,H' x.2=some (.lst (us.map V.ref))/\dE H' us (cG ds x.1))->ae H H'->Q (.ref d) H')->sp_doors_by_start  vs H Q E
theorem oM{K:Za}{vs:List V}{H:Hp}{Q:VK}{E:XK}(h:sp_doors_by_start vs H Q E):pY K (bJ Q) (start qP vs) H:=by
 obtain⟨l3,l4,ts,J5,L,rfl,h3,h4,M,ak,hz,a6,al,k⟩:=h;refine fun d hd=>?_;refine⟨_,rfl,l3,rfl,⟨_,aA.of (kp h3 hd)⟩,?_⟩
 let an:Nat->L2.St->Hp->Prop:=fun i σ j=>∃x y,σ=[some (.ref l3),some (.ref l4),some (.ref d),x,y]/\∃l:List (Str×Addr),l.map (·.1)=J5.take i/\j d=some (.dK (dX Sum.inr l))/\DL H j d l/\∀x∈l,j x.2=some (.lst [])
 refine gZ (xs:=J5.map V.str) an
  ⟨_,_,rfl,[],rfl,aa,⟨by simp,by simp,by simp,hd,by simp,ae.new hd⟩,by simp⟩ (fun i σ j _ zq=>by obtain⟨_,_,_,_,_,_,D,_⟩:=zq;exact aA.of (D.same _ _ h3)) ?_ ?_
 ·rintro i x σ j hi ⟨x3,N,rfl,l,m,n,D,g⟩;obtain⟨w,hw,rfl⟩:=dh hi;have u:w∉l.map (·.1):=by
   rw[m];intro z;have:=ak;rw[<-ww (i+1) J5,take_snoc hw,fQ]at this;have:=this.1;rw[fQ]at this;exact this.2.2 w z w (by simp) rfl
  refine⟨(by show 0<=ao;decide),fun a G=>?_⟩;have O:(dX (Sum.inr:Str->eE) l).length<ao:=aU (by
   unfold dX;rw[aq,<-aq (f:=(·.1)) (as:=l),m,aL];omega)
  have ap:H a=none:=D.same.free G;have T:a≠d:=(ah n G).symm;have U:∀x∈l,x.2≠a:=fun x hx=>ah (g x hx) G;refine⟨_,rfl,_,rfl,d,_,rfl,.inl ⟨_,.inr w,kp n G,rfl,O,rfl⟩,_,_,rfl,l++[(w,a)],?_,?_,?_,?_⟩
  ·rw[aK,m,take_snoc hw];rfl
  ·rw[aa,zE _ (oX kA u),v6]
  ·refine D.snoc u U ap T ?_;intro b o q;rw[am (ah q hd)];exact kp (D.same _ _ q) G
  ·intro x hx;rcases bu.mp hx with hx|hx
   ·rw[am (D.ned x hx)];exact kp (g x hx) G
   ·have:x=(w,a):=by simpa using hx
    rw[this,am T];exact aa
 ·rintro σ H1 ⟨x3,N,rfl,l,m,aC,D1,g⟩;rw[aq,cO]at m;refine⟨_,rfl,l4,rfl,⟨_,aA.of (D1.same _ _ h4)⟩,?_⟩
  let aH:Nat->L2.St->Hp->Prop:=fun i σ j=>∃N,σ=[some (.ref l3),some (.ref l4),some (.ref d),x3,N]/\j d=some (.dK (dX Sum.inr l))/\DL H j d l/\∀x∈l,∃I,j x.2=some (.lst (I.map V.ref))/\dE j I (cG (L.take i) x.1)
  refine gZ (xs:=ts.map V.ref) aH
   ⟨_,rfl,aC,D1,fun x hx=>⟨[],g x hx,.nil⟩⟩ (fun i σ j _ zq=>by obtain⟨_,_,_,D,_⟩:=zq;exact aA.of (D.same _ _ h4)) ?_ ?_
  ·rintro i x σ j hi ⟨N,rfl,n,D,g⟩;obtain⟨t,ht,rfl⟩:=dj hi;obtain⟨dr,B,aT⟩:=Paired.getL M ht;have v:=aT.kt (ae.kt D.same);have Y:=v;obtain⟨s,aX,a7⟩:=v;have ab:dr.a∈l.map (·.1):=by rw[m];exact al dr (ca B)
   obtain⟨⟨r,a⟩,p,er⟩:=aR.mp ab;obtain rfl:r=dr.a:=er;obtain⟨I,C,ai⟩:=g _ p;have a8:i<L.length:=(dg.mp B).1;have a0:I.length<=9000:=by
    rw[Paired.length ai];refine aP (jW _ _) ?_;rw[aL];omega
   have KT:BO j (upd j a (.lst (I.map V.ref++[.ref t]))):=jz C;refine⟨_,rfl,_,rfl,.inr (.inl ⟨t,_,0,_,rfl,rfl,cq.of aX,rfl,d,.ref a,rfl,.inl ⟨_,.inr dr.a,.inl n,rfl,(fX kA D.nd p).symm⟩,.inl ⟨rfl,_,aA.of C⟩,_,rfl,a,_,_,rfl,rfl,C,?_,_,rfl,?_,?_,?_⟩)⟩
   ·rw[aq];exact bb a0
   ·rw[am (D.ned _ p).symm];exact n
   ·refine⟨D.nd,D.na,D.fr,D.frd,D.ned,fun b o q=>?_⟩;rw[am (ah q (D.fr _ p))];exact D.same _ _ q
   ·intro x hx;have aj:∀r',cG (L.take (i+1)) r'=cG (L.take i) r'++(if dr.a=r' then[dr]else[]):=by
     intro r';unfold cG;rw[take_snoc B,sQ];congr 1;by_cases c:dr.a=r'
     ·rw[if_pos c];simp[c]
     ·rw[if_neg c];simp[c]
    by_cases c:x.2=a
    ·have ex:=FQ D.na hx p c;subst ex;refine⟨I++[t],?_,?_⟩
     ·show upd j a _ a=_;rw[aa,aK];rfl
     ·rw[aj];show dE _ _ (cG (L.take i) dr.a++(if dr.a=dr.a then[dr]else[]))
      rw[if_pos rfl];exact Paired.app (ai.kt KT) (.cons (Y.kt KT) .nil)
    ·obtain⟨a4,h1,h2⟩:=g x hx;have a5:¬(dr.a=x.1):=fun z=>by
      have e1:=fX (e:=(Sum.inr:Str->eE)) kA D.nd p;have J:=fX (e:=(Sum.inr:Str->eE)) (i:=x.1) (a:=x.2) kA D.nd hx;rw[<-z,e1]at J;injection J with J;injection J with J;exact c J.symm
     refine⟨a4,by rw[am c];exact h1,?_⟩;rw[aj,if_neg a5,dA];exact h2.kt KT
  ·rintro σ j ⟨N,rfl,n,D,g⟩;rw[aq,Paired.length M,cO]at g;exact⟨_,rfl,k d l j m n g D.same⟩
def zT(d:av):Bool:=match d.sg with
 |s::_=>decide (s=("ask":Str))
 |[]=>false
inductive sp_has_asks_alone (vs:List V)(H:Hp)(Q:VK)(E:XK):Prop
 |mk (a:Addr) (us:Ze) (ds:List av):(vs=[.ref a])->(H a=some (.lst (us.map V.ref)))->(dE H us ds)->(ds.length<=9000)->((∀d∈ds,d.sg≠[]))->(∀H',ae H H'->Q (.bl (ds.all zT)) H')->sp_has_asks_alone  vs H Q E
theorem oK{K:Za}{f:List V}{H:Hp}{Q:VK}{E:XK}(h:sp_has_asks_alone f H Q E):pX K (bJ Q) (start qO f) H:=by
 obtain⟨a,O,L,rfl,M,v,Y,D,k⟩:=h;refine⟨_,rfl,a,rfl,⟨_,aA.of M⟩,fun l N=>?_⟩
 let G:Nat->List V->Hp->Prop:=fun i f n=>f=(L.take i).map (fun d=>V.bl (zT d))/\ae H n/\n l=some (.lst f)
 refine cU (xs:=O.map V.ref) G
  ⟨rfl,ae.new N,aa⟩ (fun i f n _ T=>by obtain⟨_,p,r⟩:=T;exact⟨r,aA.of (p _ _ M)⟩) ?_ ?_
 ·rintro f n ⟨rfl,p,r⟩;rw[aq,Paired.length v,cO]at r;refine⟨l,L.map zT,rfl,aA.of (by rw[r,eZ];rfl),?_⟩;rw[mP];exact k n p
 ·rintro i f n x hx hi ⟨rfl,p,r⟩;obtain⟨t,U,rfl⟩:=dj hx;obtain⟨dr,w,I⟩:=Paired.getL v U;obtain⟨s,J,m⟩:=I.kt (ae.kt p);have B:=ca w;obtain⟨u,g,C⟩:∃u g,dr.sg=u::g:=by
   cases q:dr.sg with
   |nil=>exact absurd q (D dr B)
   |cons x y=>exact⟨x,y,rfl⟩
  unfold SignAt at m;rw[C]at m;refine gN (pO ?_);refine⟨_,rfl,.inr (.inl ⟨t,_,1,_,rfl,rfl,cq.of J,rfl,.inr (.inl ⟨s,_,0,.str u,rfl,rfl,cq.of m,bW (j:=0) rfl,rfl,r,?_,uf hi ⟨?_,?_,aa⟩⟩)⟩)⟩
  ·rw[aq,aL];exact bb (by omega)
  ·rw[take_snoc w,aK];congr 1;show[V.bl _]=[V.bl _];congr 2;unfold zT;rw[C];show decide (V.str u=V.str _)=decide (u=_);by_cases c:u=("ask":Str)
   ·rw[zzr1 c,zzr1 (by rw[c])]
   ·rw[zzr0 c,zzr0 (fun z=>c (by injection z))]
  ·intro b o e;rw[am (ah e N)];exact p _ _ e
def yU(x:Str×List Str):TK:=.t [uZ x.1,Ge x.2]
theorem ki:∀x y:Str×List Str,yU x=yU y->x=y:=by
 intro x y h;unfold yU at h;injection h with h;injection h with a h;injection h with e h;cases x;cases y;simp only at *;rw[sC a,CS e]
theorem vM(x:Str×List Str):(yU x).depth<=8:=by
 show max (TK.depth (uZ x.1)) (max (TK.depth (Ge x.2)) 0)+1<=8;rw[vH];show max 0 (max 1 0)+1<=8
 decide
def cR(ds:List av)(x:Str×List Str):List Str:=(ds.filter fun d=>decide (d.a=x.1/\d.sg=x.2)).map (·.b)
theorem yg(e:List av)(d:av)(x:Str×List Str):cR (e++[d]) x=cR e x++(if(d.a,d.sg)=x then[d.b]else[]):=by
 unfold cR;rw[sQ,aK];congr 1;by_cases c:(d.a,d.sg)=x
 ·subst c;simp
 ·rw[if_neg c];have:¬(d.a=x.1/\d.sg=x.2):=fun z=>c (by cases x;simp only at z;rw[z.1,z.2]);simp[List.filter_cons];intro f g;exact this ⟨f,g⟩
theorem rH{e:List av}{x:Str×List Str}(h:∀d∈e,(d.a,d.sg)≠x):cR e x=[]:=by
 unfold cR;rw[mM,List.filter_eq_nil_iff];intro d f;have:¬(d.a=x.1/\d.sg=x.2):=fun z=>h d f (by cases x;simp only at z;rw[z.1,z.2]);simp;intro g i;exact this ⟨g,i⟩
theorem lF{a:List av}{x:Str×List Str}{b:Str}:b∈cR a x↔(⟨x.1,x.2,b⟩:av)∈a:=by
 unfold cR;rw[aR];constructor
 ·rintro⟨d,e,rfl⟩;rw[iC]at e;obtain⟨i,j⟩:=e;obtain⟨f,g⟩:=of_decide_eq_true j;cases d;simp only at f g;rw[<-f,<-g];exact i
 ·intro h;exact⟨_,iC.mpr ⟨h,zzr1 ⟨rfl,rfl⟩⟩,rfl⟩
structure iu(H:Hp)(g:Addr)(ps:List ((Str×List Str)×Addr))(ds:List av):Prop where
 nd:(ps.map (·.1)).Nodup
 g:H g=some (.dT (dX yU ps))
 ls:∀x∈ps,H x.2=some (.lst ((cR ds x.1).map V.str))
 all:∀d∈ds,(d.a,d.sg)∈ps.map (·.1)
theorem iu.same{H H':Hp}{g:Addr}{a:List ((Str×List Str)×Addr)}{e:List av}(h:iu H g a e)(s:ae H H'):iu H' g a e:=⟨h.nd,s _ _ h.g,fun x hx=>s _ _ (h.ls x hx),h.all⟩
inductive lp (vs:List V)(H:Hp)(Q:VK)(E:XK):Prop
 |mk (l4:Addr) (ts:Ze) (ds:List av):(vs=[.ref l4])->(H l4=some (.lst (ts.map V.ref)))->(dE H ts ds)->(ds.length<=9000)->(∀(g:Addr) (ps:List ((Str×List Str)×Addr)) (H':Hp),iu H' g ps ds->ae H H'->Q (.ref g) H')->lp  vs H Q E
theorem iO{K:Za}{vs:List V}{H:Hp}{Q:VK}{E:XK}(h:lp vs H Q E):i_ K (bJ Q) (start jc vs) H:=by
 obtain⟨l4,ts,T,rfl,h4,ab,hz,k⟩:=h;refine fun g hg=>?_;refine⟨_,rfl,l4,rfl,⟨_,aA.of (kp h4 hg)⟩,?_⟩
 let ap:Nat->L2.St->Hp->Prop:=fun i σ p=>∃x y z,σ=[some (.ref l4),some (.ref g),x,y,z]/\∃n:List ((Str×List Str)×Addr),DL H p g n/\p g=some (.dT (dX yU n))/\n.length<=i/\(∀x∈n,p x.2=some (.lst ((cR (T.take i) x.1).map V.str)))/\∀d∈T.take i,(d.a,d.sg)∈n.map (·.1)
 refine gZ (xs:=ts.map V.ref) ap
  ⟨_,_,_,rfl,[],⟨by simp,by simp,by simp,hg,by simp,ae.new hg⟩,aa,by simp,by simp,by simp⟩ (fun i σ p _ zq=>by obtain⟨_,_,_,_,_,D,_⟩:=zq;exact aA.of (D.same _ _ h4)) ?_ ?_
 ·rintro i x σ p hi ⟨x2,x3,x4,rfl,n,D,u,ai,l,j⟩;obtain⟨t,ht,rfl⟩:=dj hi;obtain⟨dr,C,as⟩:=Paired.getL ab ht;have a4:i<T.length:=(dg.mp C).1;obtain⟨s,aC,aH⟩:=as.kt (ae.kt D.same);refine⟨t,_,rfl,cq.of aC,rfl,_,_,rfl,_,_,rfl,_,_,rfl,rfl,?_⟩;refine⟨_,rfl,.inr (.inr (.inl ⟨rfl,.inr ⟨_,u⟩⟩)),_,rfl,_,rfl,(by show 2<=ao;decide),fun kt aj=>⟨(by show 0<=ao;decide),fun nl U=>?_⟩⟩;have G:ae p (upd (upd p kt (.tup [.str dr.a,.ref s])) nl (.lst [])):=(ae.new aj).trans (ae.new U);have L:upd (upd p kt (.tup [.str dr.a,.ref s])) nl (.lst []) kt=some (.tup [.str dr.a,.ref s]):=kp aa U;have M:upd (upd p kt (.tup [.str dr.a,.ref s])) nl (.lst []) nl=some (.lst []):=aa;have f:p nl=none:=(ae.new aj).free U;generalize upd (upd p kt (.tup [.str dr.a,.ref s])) nl (.lst [])=H2 at G L M ⊢;have aT:ir H2 (yU (dr.a,dr.sg)) (.ref kt):=by
   unfold yU ir;refine⟨kt,_,rfl,L,?_⟩;unfold TKAts;refine⟨_,_,rfl,AB _,?_⟩;unfold TKAts;refine⟨_,_,rfl,SignAt.tk (G _ _ aH),?_⟩;unfold TKAts
   rfl
  have aX:(dX yU n).length<ao:=bb (by unfold dX;rw[aq];omega);have I:∀x,cR (T.take (i+1)) x=cR (T.take i) x++(if(dr.a,dr.sg)=x then[dr.b]else[]):=fun x=>by rw[take_snoc C,yg]
  have a0:∀x,(cR (T.take i) x).length<=9000:=fun x=>by
   unfold cR;rw[aq];refine aP (jW _ _) ?_;rw[aL];omega
  refine⟨g,kt,_,yU (dr.a,dr.sg),.ref nl,rfl,rfl,G _ _ u,aT,vM _,aX,fun v J=>?_,fun J=>?_⟩
  ·-- there ak
   have N:(dr.a,dr.sg)∈n.map (·.1):=by
    refine Classical.byContradiction fun z=>?_;rw[oX ki z]at J;cases J
   obtain⟨⟨r,a⟩,m,er⟩:=aR.mp N;obtain rfl:r=(dr.a,dr.sg):=er;rw[fX ki D.nd m]at J;injection J with J;subst J;have al:=G _ _ (l _ m);refine⟨.inl ⟨rfl,_,aA.of al⟩,_,rfl,a,_,_,rfl,rfl,al,by rw[aq];exact bb (a0 _),_,_,_,rfl,n,⟨D.nd,D.na,D.fr,D.frd,D.ned,fun b o q=>?_⟩,?_,by omega,?_,?_⟩
   ·rw[am (ah q (D.fr _ m))];exact G _ _ (D.same _ _ q)
   ·rw[am (D.ned _ m).symm];exact G _ _ u
   ·intro x hx;by_cases c:x.2=a
    ·have ex:=FQ D.na hx m c;subst ex;show upd H2 a _ a=_;rw[aa,I,if_pos rfl,aK];rfl
    ·have Y:¬((dr.a,dr.sg)=x.1):=fun z=>by
      have e1:=fX (e:=yU) ki D.nd m;have e2:=fX (e:=yU) (i:=x.1) (a:=x.2) ki D.nd hx;rw[<-z,e1]at e2;injection e2 with e2;injection e2 with e2;exact c e2.symm
     rw[am c,I,if_neg Y,dA];exact G _ _ (l x hx)
   ·intro d hd;rw[take_snoc C]at hd;rcases bu.mp hd with hd|hd
    ·exact j d hd
    ·have:d=dr:=by simpa using hd
     rw[this];exact N
  ·-- a new list
   have w:(dr.a,dr.sg)∉n.map (·.1):=by
    intro z;obtain⟨⟨r,a⟩,m,er⟩:=aR.mp z;obtain rfl:r=(dr.a,dr.sg):=er;rw[fX ki D.nd m]at J;cases J
   have B:nl≠g:=(ah u f).symm;have O:upd H2 g (.dT (dX yU n++[(yU (dr.a,dr.sg),.ref nl)])) nl=some (.lst []):=by rw[am B];exact M
   refine⟨.inl ⟨rfl,_,aA.of O⟩,_,rfl,nl,_,_,rfl,rfl,O,(by show 0<ao;decide),_,_,_,rfl,n++[((dr.a,dr.sg),nl)],?_,?_,?_,?_,?_⟩
   ·refine D.snoc w (fun x hx=>ah (l x hx) f) (D.same.free f) B ?_;intro b o q;rw[am (ah q (D.same.free f)),am (ah q hg)];exact G _ _ (D.same _ _ q)
   ·rw[am B.symm,aa,v6]
   ·rw[aV];show _+1<=_;omega
   ·intro x hx;rcases bu.mp hx with hx|hx
    ·have Y:¬((dr.a,dr.sg)=x.1):=fun z=>w (by rw[z];exact aR.mpr ⟨x,hx,rfl⟩);rw[am (ah (l x hx) f),am (D.ned x hx),I,if_neg Y,dA];exact G _ _ (l x hx)
    ·have:x=((dr.a,dr.sg),nl):=by simpa using hx
     subst this;have an:cR (T.take i) (dr.a,dr.sg)=[]:=rH fun d hd z=>w (by rw[<-z];exact j d hd);show upd _ nl _ nl=_;rw[aa,I,if_pos rfl,an]
     rfl
   ·intro d hd;rw[aK];rw[take_snoc C]at hd;rcases bu.mp hd with hd|hd
    ·exact cL _ (j d hd)
    ·have:d=dr:=by simpa using hd
     rw[this];exact dI _ (by simp)
 ·rintro σ p ⟨x2,x3,x4,rfl,n,D,u,ai,l,j⟩;rw[aq,Paired.length ab,cO]at l j;exact⟨_,rfl,k g n p ⟨D.nd,u,l,j⟩ D.same⟩
theorem oS:∀{L R:Zb},L.Nodup->(∀y∈L,y∈R)->L.length<=R.length
 |[],_,_,_=>cf _
 |x::L,R,a,h=>by
  rw[jw]at a;have hx:=h x bR;have:=oS (L:=L) (R:=R.erase x) a.2 fun y f=>(List.mem_erase_of_ne (fun e:y=x=>a.1 (by rw[<-e];exact f))).mpr (h y (bQ _ f));rw[List.length_erase_of_mem hx]at this;have:0<R.length:=List.length_pos_of_mem hx;rw[bP];omega
theorem Reach.in_{e:List av}{a b:Str}{f:Zb}(g:∀d∈e,d.b∈f)(h:Reach e a b):b∈f:=by
 cases h with
 |one h=>exact g _ h
 |step r h=>exact g _ h
inductive tT (vs:List V)(H:Hp)(Q:VK)(E:XK):Prop
 |mk (g:Addr) (room:Str) (ps:List ((Str×List Str)×Addr)) (ds:List av) (J5:Zb):(vs=[.ref g,.str room])->(iu H g ps ds)->((∀d∈ds,d.b∈J5))->(J5.length<=1000)->(∀(d:Addr) (L:Zb) (H':Hp),H' d=some (.dK (bU L))->L.Nodup->(∀w,w∈L↔Reach ds room w)->H d=none->ae H H'->Q (.ref d) H')->tT  vs H Q E
structure Ke(H0 H:Hp)(ds:List av)(room:Str)(d w:Addr)(L W:Zb)(open_:Str->Prop):Prop where
 d:H d=some (.dK (bU L))
 w:H w=some (.lst (W.map V.str))
 same:ae H0 H
 nd:L.Nodup
 sound:∀y∈L,Reach ds room y
 wait:∀y∈W,y=room∨y∈L
 closed:∀y,(y=room∨y∈L)->y∉W->¬open_ y->∀c∈cR ds (y,aJ),c∈L
theorem r9{K:Za}{st:Addr}(a9:∀H,cq K H st (aJ.map V.str)){vs:List V}{H:Hp}{Q:VK}{E:XK}(h:tT vs H Q E):tG K st (bJ Q) (start uO vs) H:=by
 obtain⟨g,room,ps,ds,t,rfl,G,bd,hz,k⟩:=h;refine fun d hd=>?_;refine⟨_,rfl,(by show 1<=ao;decide),fun w hw=>?_⟩;have ap:H w=none:=(ae.new hd).free hw;have ab:d≠w:=ah aa hw;refine⟨fun m σ I=>∃(L W:Zb) (x y:Option V),σ=[some (.ref g),some (.str room),some (.ref d),some (.ref w),x,y]/\Ke H I ds room d w L W (fun _=>False)/\m=2 * (t.length-L.length)+W.length/\m<=2 * t.length+1,
  ⟨_,[],[room],_,_,rfl,⟨kp aa hw,aa,(ae.new hd).trans (ae.new hw),j6,by simp,by simp,?_⟩,rfl,aG _⟩,?_⟩
 ·intro y hy U;rcases hy with rfl|hy
  ·simp at U
  ·cases hy
 rintro m σ H1 ⟨L,W,x4,x5,rfl,D,rfl,hbound⟩;have Y:∀{l:Zb},l.Nodup->(∀y∈l,Reach ds room y)->l.length<=t.length:=fun nd sd=>oS nd fun y hy=>(sd y hy).in_ bd;refine⟨_,rfl,.inl ⟨w,_,rfl,.inl (aA.of D.w),_,_,rfl,rfl,_,rfl,?_⟩⟩;refine dz (fun C=>?_) (fun C=>?_)
 ·have as:W≠[]:=by
   intro z;rw[z]at C;exact absurd (of_decide_eq_true C) (by decide)
  obtain⟨s,f,rfl⟩:∃s f,W=s++[f]:=⟨W.dropLast,W.getLast as,(List.dropLast_concat_getLast as).symm⟩;have ai:f=room∨f∈L:=D.wait f (by simp);refine⟨fun σ' I=>∃(l n:Zb) (x y:Option V),σ'=[some (.ref g),some (.str room),some (.ref d),some (.ref w),x,y]/\Ke H I ds room d w l n (fun _=>False)/\2 * (t.length-l.length)+n.length<2 * (t.length-L.length)+(s++[f]).length,
   fun σ' I ⟨l,n,x,y,e,D',hm⟩=>⟨_,hm,l,n,x,y,e,D',rfl,by omega⟩,?_⟩
  have aj:((s++[f]).map V.str)[((s++[f]).map V.str).length-1]?=some (.str f):=by simp
  have ak:((s++[f]).map V.str).dropLast=s.map V.str:=by rw[aK];simp
  refine⟨_,rfl,.inl ⟨rfl,_,aA.of D.w⟩,w,_,_,rfl,rfl,D.w,aj,?_⟩;rw[ak];have aC:upd H1 w (.lst (s.map V.str)) d=some (.dK (bU L)):=by rw[am ab];exact D.d
  have aH:upd H1 w (.lst (s.map V.str)) w=some (.lst (s.map V.str)):=aa;have S1:ae H (upd H1 w (.lst (s.map V.str))):=fun b o q=>by rw[am (ah q ap)];exact D.same _ _ q
  generalize upd H1 w (.lst (s.map V.str))=H2 at aC aH S1 ⊢;have G2:=G.same S1;refine⟨_,rfl,g,rfl,.inr ⟨_,.inl G2.g⟩,_,rfl,(by show 2<=ao;decide),fun kt aT=>⟨(by show 0<=ao;decide),fun et al=>⟨eh (dX yU ps) (yU (f,aJ)),.inr ⟨_,yU (f,aJ),kt,.inl ?_,rfl,?_,vM _,rfl⟩,?_⟩⟩⟩
  ·exact kp (kp G2.g aT) al
  ·unfold yU si;refine⟨kt,_,rfl,cq.of (kp aa al),?_⟩;unfold TKIns;refine⟨_,_,rfl,?_,?_⟩
   ·unfold uZ si;rfl
   unfold TKIns;refine⟨_,_,rfl,?_,?_⟩
   ·unfold Ge si;refine⟨st,_,rfl,a9 _,?_⟩;unfold aJ;show TKIns K _ [uZ _] [V.str _];unfold TKIns;refine⟨_,_,rfl,?_,?_⟩
    ·unfold uZ si;rfl
    unfold TKIns;rfl
   unfold TKIns;rfl
  have S3:ae H2 (upd (upd H2 kt (.tup [.str f,.ref st])) et (.tup [])):=(ae.new aT).trans (ae.new al);have J:upd (upd H2 kt (.tup [.str f,.ref st])) et (.tup []) et=some (.tup []):=aa;generalize upd (upd H2 kt (.tup [.str f,.ref st])) et (.tup [])=H3 at S3 J ⊢;have D3:Ke H H3 ds room d w L s (fun y=>y=f):=⟨S3 _ _ aC,S3 _ _ aH,S1.trans S3,D.nd,D.sound,fun y hy=>D.wait y (cL _ hy),fun y hy U ho=>D.closed y hy (fun z=>by rcases bu.mp z with z|z;exact U z;exact ho (by simpa using z)) (fun z=>z)⟩;have aX:2 * (t.length-L.length)+s.length<2 * (t.length-L.length)+(s++[f]).length:=by rw[aV];show _<_+(_+1);omega
  have a0:∀(H4:Hp) (l n:Zb) (x y:Option V),Ke H H4 ds room d w l n (fun y=>y=f)->(∀c∈cR ds (f,aJ),c∈l)->2 * (t.length-l.length)+n.length<2 * (t.length-L.length)+(s++[f]).length ->
    ∃(l n:Zb) (x' y':Option V),[some (V.ref g),some (.str room),some (.ref d),some (.ref w),x,y]=[some (.ref g),some (.str room),some (.ref d),some (.ref w),x',y']/\Ke H H4 ds room d w l n (fun _=>False)/\2 * (t.length-l.length)+n.length<2 * (t.length-L.length)+(s++[f]).length:=by
   intro H4 l n x y p hc hm;refine⟨l,n,x,y,rfl,⟨p.d,p.w,p.same,p.nd,p.sound,p.wait,fun y hy U _=>?_⟩,hm⟩;by_cases e:y=f
   ·rw[e];exact hc
   ·exact p.closed y hy U e
  by_cases M:(f,aJ)∈ps.map (·.1)
  ·obtain⟨⟨r,a⟩,a4,er⟩:=aR.mp M;obtain rfl:r=(f,aJ):=er;rw[fX ki G.nd a4];have a5:=G.ls _ a4;refine⟨a,rfl,.inl ⟨⟨_,aA.of ((S1.trans S3) _ _ a5)⟩,?_⟩⟩
   let an:Nat->L2.St->Hp->Prop:=fun j σ I=>NE3 fun(l n:Zb) (y:Option V)=>NA5 (σ=[some (.ref g),some (.str room),some (.ref d),some (.ref w),some (.str f),y]) (Ke H I ds room d w l n (fun y=>y=f)) ((f=room∨f∈l)) ((∀c∈(cR ds (f,aJ)).take j,c∈l)) (2 * (t.length-l.length)+n.length<2 * (t.length-L.length)+(s++[f]).length)
   refine gZ (xs:=(cR ds (f,aJ)).map V.str) an
    ⟨L,s,_,rfl,D3,ai,by simp,aX⟩ (fun j σ I _ zq=>by obtain⟨_,_,_,_,D',_,_,_⟩:=zq;exact aA.of (D'.same _ _ a5)) ?_ ?_
   ·rintro j x σ H4 hj ⟨l,n,y,rfl,p,hh,hc,hm⟩;obtain⟨i,u,rfl⟩:=dh hj;have v:(⟨f,aJ,i⟩:av)∈ds:=lF.mp (ca u);have T:Reach ds room i:=by
     rcases hh with hh|hh
     ·rw[hh]at v;exact .one v
     ·exact .step (p.sound _ hh) v
    have bi:=Y p.nd p.sound;refine⟨_,rfl,_,rfl,d,_,rfl,.inl ⟨_,.inr i,.inl p.d,rfl,rfl⟩,_,rfl,?_⟩;rw[jP];by_cases c:i∈l
    ·rw[zzr1 c];refine bC ⟨l,n,_,rfl,p,hh,?_,hm⟩;intro c' B;rw[take_snoc u]at B;rcases bu.mp B with h|h
     ·exact hc c' h
     ·have:c'=i:=by simpa using h
      rw[this];exact c
    ·rw[zzr0 c];refine bI ?_;have a6:(l++[i]).Nodup:=by
      rw[fQ];refine⟨p.nd,by simp,fun a ha b hb e=>?_⟩;have:b=i:=by simpa using hb
      exact c (by rw[<-this,<-e];exact ha)
     have a7:∀y∈l++[i],Reach ds room y:=by
      intro y hy;rcases bu.mp hy with hy|hy
      ·exact p.sound y hy
      ·have:y=i:=by simpa using hy
       rw[this];exact T
     have N:=Y a6 a7;rw[aV]at N;have bm:l.length+1<=t.length:=N;have bn:n.length<=9000:=by omega
     refine⟨_,rfl,_,rfl,d,_,rfl,.inl ⟨_,.inr i,p.d,rfl,aU (aP (nr _) (by omega)),rfl⟩,?_⟩;have a8:upd H4 d (.dK (gU (bU l) (.inr i) (.bl true))) w=some (.lst (n.map V.str)):=by rw[am ab.symm];exact p.w
     refine⟨_,rfl,.inl ⟨rfl,_,aA.of a8⟩,_,rfl,w,_,_,rfl,rfl,a8,by rw[aq];exact bb bn,l++[i],n++[i],_,rfl,⟨?_,?_,?_,a6,a7,?_,?_⟩,?_,?_,?_⟩
     ·rw[am ab,aa,gX]
     ·rw[aa,aK];rfl
     ·intro b o q;rw[am (ah q ap),am (ah q hd)];exact p.same _ _ q
     ·intro y hy;rcases bu.mp hy with hy|hy
      ·rcases p.wait y hy with h|h
       ·exact .inl h
       ·exact .inr (cL _ h)
      ·exact .inr (dI _ hy)
     ·intro y hy U ho c' B;have b0:y∉n:=fun z=>U (cL _ z);have b1:y≠i:=fun z=>U (dI _ (by simp[z]));refine cL _ (p.closed y ?_ b0 ho c' B);rcases hy with hy|hy
      ·exact .inl hy
      ·rcases bu.mp hy with hy|hy
       ·exact .inr hy
       ·exact absurd (by simpa using hy) b1
     ·rcases hh with h|h
      ·exact .inl h
      ·exact .inr (cL _ h)
     ·intro c' B;rw[take_snoc u]at B;rcases bu.mp B with h|h
      ·exact cL _ (hc c' h)
      ·exact dI _ h
     ·rw[aV,aV];show 2 * (t.length-(l.length+1))+(n.length+1)<_;omega
   ·rintro σ H4 ⟨l,n,y,rfl,p,hh,hc,hm⟩;rw[aq,cO]at hc;exact a0 H4 l n _ _ p hc hm
  ·rw[oX ki M];refine⟨et,rfl,.inr ⟨⟨_,cq.of J⟩,?_⟩⟩;have O:cR ds (f,aJ)=[]:=rH fun x hx z=>M (by rw[<-z];exact G.all x hx)
   let an:Nat->L2.St->Hp->Prop:=fun j σ I=>σ=[some (.ref g),some (.str room),some (.ref d),some (.ref w),some (.str f),x5]/\I=H3
   refine HA (xs:=[]) an ⟨rfl,rfl⟩ (fun j σ I _ zq=>by obtain⟨_,e⟩:=zq;exact by rw[e];exact cq.of J) (fun j x σ I hj=>by cases hj) ?_;rintro σ I ⟨rfl,rfl⟩;exact a0 _ L s _ _ D3 (by rw[O];simp) aX
 ·have O:W=[]:=by
   cases W with
   |nil=>rfl
   |cons a W=>exact absurd (zzr1 (by rw[aq,bP];omega)) C
  subst O;refine⟨_,rfl,k d L H1 D.d D.nd (fun w=>⟨D.sound w,fun hr=>?_⟩) hd D.same⟩
  induction hr with
  |one h=>exact D.closed room (.inl rfl) (by simp) (fun z=>z) _ (lF.mpr h)
  |step r h ih=>exact D.closed _ (.inr ih) (by simp) (fun z=>z) _ (lF.mpr h)
abbrev lk(f:Str)(fs:List (Str×V)):Option V:=fs.lookup f
def lz(ds:List av)(r:Str):Bool:=(cG ds r).all zT
structure ia(C:Addr)(H:Hp)(x:Addr)(J0 J4 J5:Zb)(ds:List av):Prop where
 at_:∃(dx:Addr) (fs:List (Str×V)) (o1 o2 o3 o4 lv qu sg sl:Addr) (ts:Ze) (lps:List (Str×Addr)) (gps:List ((Str×List Str)×Addr)) (sps:List (Str×Addr)),
  H x=some (.ins C dx fs)/\lk "is_quiet" fs=none/\lk "goals" fs=none/\lk "led_from" fs=none/\lk "rooms" fs=none /\
  lk "own_asks" fs=some (.ref o1)/\lk "own_says" fs=some (.ref o2)/\lk "own_rooms" fs=some (.ref o3)/\lk "own_doors" fs=some (.ref o4) /\
  lk "leaving" fs=some (.ref lv)/\lk "quiet" fs=some (.ref qu)/\lk "sign_goals" fs=some (.ref sg)/\lk "still_led" fs=some (.ref sl) /\
  Lists H o1 o2 o3 o4 ts J0 J4 J5 ds /\
  lps.map (·.1)=J5/\H lv=some (.dK (dX Sum.inr lps))/\(∀x∈lps,∃us,H x.2=some (.lst (us.map V.ref))/\dE H us (cG ds x.1)) /\
  H qu=some (.dK (bU (J5.filter (lz ds))))/\iu H sg gps ds /\
  sps.map (·.1)=J5/\H sl=some (.dK (dX Sum.inr sps))/\(∀x∈sps,∃L,H x.2=some (.dK (bU L))/\L.Nodup/\∀w,w∈L↔Reach ds x.1 w)
 ok:bO J0 J4 J5 ds
 more:∃(dx:Addr) (fs:List (Str×V)),H x=some (.ins C dx fs)/\lk "asks" fs=none/\lk "says" fs=none/\lk "doors" fs=none/\lk "doors_from" fs=none
theorem gV(f:Str)(v:V):∀fs:List (Str×V),(c_ f v fs).length<=fs.length+1
 |[]=>aG _
 | (g,x)::r=>by
  unfold c_;split
  ·exact hV _
  ·rw[bP,bP];have:=gV f v r;omega
theorem uo:∀(a qs:List (Str×Addr)),((qs++a).map (·.1)).Nodup->jy (dX Sum.inr qs) (dX Sum.inr a)=dX Sum.inr (qs++a)
 |[],qs,_=>by rw[dA];rfl
 |p::a,qs,g=>by
  show jy (gU (dX Sum.inr qs) (Sum.inr p.1) (.ref p.2)) (dX Sum.inr a)=_;have e:qs++p::a=(qs++[p])++a:=by simp
  rw[e]at g ⊢;have f:p.1∉qs.map (·.1):=by
   rw[aK,aK,fQ]at g;have:=g.1;rw[fQ]at this;intro z;exact this.2.2 _ z _ (by simp) rfl
  rw[zE _ (oX kA f)];have:=uo a (qs++[p]) g;rw[<-this];have h:dX (Sum.inr:Str->eE) (qs++[p])=dX Sum.inr qs++[(Sum.inr p.1,V.ref p.2)]:=by
   unfold dX;rw[aK];rfl
  rw[h]
theorem Lists.exI{H f:Hp}{x C p:Addr}{fs:List (Str×V)}{g i l3 j:Addr}{k:Ze}{l m n:Zb}{o:List av}(h:Lists H g i l3 j k l m n o)(hx:H x=some (.ins C p fs))(e:cV x H f):Lists f g i l3 j k l m n o:=by
 have ne:∀{b:Addr}{xs:List V},H b=some (.lst xs)->b≠x:=fun a z=>by rw[z,hx]at a;cases a
 exact⟨e _ _ h.a1 (ne h.a1),e _ _ h.a2 (ne h.a2),e _ _ h.a3 (ne h.a3),e _ _ h.a4 (ne h.a4),h.ds.kt fun b xs a=>e _ _ a fun z=>by rw[z,hx]at a;cases a⟩
theorem cV.ktI{H f:Hp}{x C g:Addr}{fs:List (Str×V)}(e:cV x H f)(hx:H x=some (.ins C g fs)):BO H f:=fun b xs a=>e _ _ a fun z=>by rw[z,hx]at a;cases a
theorem cV.neI{H:Hp}{x C e:Addr}{fs:List (Str×V)}(hx:H x=some (.ins C e fs)){b:Addr}{xs:List V}(a:H b=some (.lst xs)):b≠x:=fun z=>by rw[z,hx]at a;cases a
theorem FO{H:Hp}{x C f:Addr}{fs:List (Str×V)}(hx:H x=some (.ins C f fs)){b:Addr}{a:List (eE×V)}(e:H b=some (.dK a)):b≠x:=fun z=>by rw[z,hx]at e;cases e
theorem Ir{H:Hp}{x C f:Addr}{fs:List (Str×V)}(hx:H x=some (.ins C f fs)){b:Addr}{a:List (TK×V)}(e:H b=some (.dT a)):b≠x:=fun z=>by rw[z,hx]at e;cases e
structure MC(K:Za)(C:Addr):Prop where
 cls:Eu K C
 a1:db K C "own_asks"
 a2:db K C "own_says"
 a3:db K C "own_rooms"
 a4:db K C "own_doors"
 a5:db K C "leaving"
 a6:db K C "quiet"
 a7:db K C "sign_goals"
 a8:db K C "still_led"
theorem zY{H:Hp}{x C a:Addr}{fs:List (Str×V)}(f:Str)(y:V)(hx:H x=some (.ins C a fs)):∃e,e=upd H x (.ins C a (c_ f y fs))/\e x=some (.ins C a (c_ f y fs))/\cV x H e :=
 ⟨_,rfl,aa,cV.upd _ _ _⟩
theorem jk{p:Str->Bool}{a:Zb}{i:Nat}{w:Str}(h:a[i]?=some w):(a.take (i+1)).filter p=(a.take i).filter p++(if p w=true then[w]else[]):=by
 rw[take_snoc h,sQ];congr 1;by_cases c:p w=true
 ·rw[if_pos c];simp[c]
 ·rw[if_neg c];simp[c]
theorem Bk(a:List av)(r:Str):(cG a r).length<=a.length:=jW _ _
theorem HI(a b:Str):decide (bx a=bx b)=decide (a=b):=by
 by_cases e:a=b
 ·rw[zzr1 e,zzr1 (by rw[e])]
 ·rw[zzr0 e,zzr0 (fun z=>e (lY z))]
theorem ia.by{C:Addr}{H e:Hp}{x:Addr}{s t u:Zb}{v:List av}(h:ia C H x s t u v)
  (j:∀b w,H b=some (.lst (List.map V.str w))->e b=some (.lst (List.map V.str w))) (z:∀b k,H b=some (.lst (List.map V.ref k))->e b=some (.lst (List.map V.ref k))) (B:BO H e)
  (l:∀b a,H b=some (.dK a)->e b=some (.dK a)) (D:∀b a,H b=some (.dT a)->e b=some (.dT a)) (hi:∀b C f fs,H b=some (.ins C f fs)->e b=some (.ins C f fs)):ia C e x s t u v:=by
 obtain⟨f,fs,E,I,J,M,lv,N,O,Q,k,m,n,o,T,a1,a2,a3,U,Y,b2,b3,b4,b5,b6,b7,b8,L,c1,c2,c3,c4,G,d1,d2,d3⟩:=h.at_;refine⟨⟨f,fs,E,I,J,M,lv,N,O,Q,k,m,n,o,hi _ _ _ _ T,a1,a2,a3,U,Y,b2,b3,b4,b5,b6,b7,b8,⟨j _ _ L.a1,j _ _ L.a2,j _ _ L.a3,z _ _ L.a4,L.ds.kt B⟩,c1,l _ _ c2,fun y i=>?_,l _ _ c4,⟨G.nd,D _ _ G.g,fun y i=>j _ _ (G.ls y i),G.all⟩,d1,l _ _ d2,fun y i=>?_⟩,h.ok,by obtain⟨f,fs,g,r⟩:=h.more;exact⟨f,fs,hi _ _ _ _ g,r⟩⟩
 ·obtain⟨us,p,q⟩:=c3 y i;exact⟨us,z _ _ p,q.kt B⟩
 ·obtain⟨L0,p,q⟩:=d3 y i;exact⟨L0,l _ _ p,q⟩
theorem ia.same{C:Addr}{H a:Hp}{x:Addr}{f g i:Zb}{j:List av}(h:ia C H x f g i j)(S:ae H a):ia C a x f g i j :=
 h.by (fun _ _ e=>S _ _ e) (fun _ _ e=>S _ _ e) (ae.kt S) (fun _ _ e=>S _ _ e) (fun _ _ e=>S _ _ e) (fun _ _ _ _ e=>S _ _ e)
theorem l_{w:Str}{a:Zb}:bx w∈a.map bx↔w∈a:=by
 constructor
 ·intro h;obtain⟨x,hx,e⟩:=aR.mp h;rw[<-lY e];exact hx
 ·exact pk
def rR(K:Za):TS :=
 bf (du (fU K) (aF (zh K V0 "own_rooms")))
def sq:List Str:=["self"]
def tH(K:Za):TS :=
 au (aN (du (fU K) (aF V1)) U2)
 (au (aN (tC (.int 0)) U3)
 (au (AH (bc (aI A9 V3 (du (cD K) (aF V2)))) (au (gk (dS K V0) (iT K 3 (bt U4 (bt U5 (bt U6 (io))))) (cu (xB (bc (aI (se K) V4 (aI (DB K) V2 V3))) (xB (bc (aI (se K) V5 (d7 (aF (tC (.str "still")))))) (bc (aI (oO K true) V6 V2)))) (dB (pf K "list" fV V2 (aF V6))) (br)))
 (aN (aI eM V3 (tC (.int 1))) U3)))
 (bf V2)))
def uP:List Str:=["doors","rooms","found","at","room","sign","other"]
inductive oq(C:Addr)(vs:List V)(H:Hp)(Q:VK)(E:XK):Prop
 |mk (x:Addr) (J0 J4 J5:Zb) (ds:List av):(vs=[.ref x])->(ia C H x J0 J4 J5 ds)->(∀l,H l=none->Q (.ref l) (upd H l (.lst (J5.map V.str))))->oq C vs H Q E
theorem E_{K:Za}{C:Addr}(M:MC K C){a:List V}{H:Hp}{Q:VK}{E:XK}(h:oq C a H Q E):rR K (bJ Q) (start sq a) H:=by
 obtain⟨x,n,o,p,q,rfl,h,k⟩:=h;obtain⟨f,fs,r,s,e,t,lv,u,v,w,y,g,i,j,l,a1,a2,a3,z,B,D,m,G,I,J,N,O,L,_⟩:=h.at_;exact⟨_,rfl,x,C,f,fs,.ref e,rfl,l,M.cls,M.a3,m,.inl ⟨e,_,rfl,.inl (aA.of L.a3),k⟩⟩
theorem Reach.trans{ds:List av}{a b c:Str}(e:Reach ds a b)(f:Reach ds b c):Reach ds a c:=by
 induction f with
 |one h=>exact .step e h
 |step r h g=>exact .step g h
def yQ(ds:List av)(gs:Zb)(w:Str):Prop:=∃g∈gs,w=g∨Reach ds g w
inductive jf(K:Za)(vs:List V)(H:Hp)(Q:VK)(E:XK):Prop
 |mk (l4 l:Addr) (ts:Ze) (ds:List av) (gs J5:Zb):(vs=[.ref l4,.ref l])->(H l4=some (.lst (ts.map V.ref)))->(dE H ts ds)->(H l=some (.lst (gs.map V.str)))->((∀d∈ds,d.b∈J5))->(J5.length<=1000)->(gs.length<=1000)->(∀(f:Addr) (F:Zb) (H':Hp),H' f=some (.lst (F.map V.str))->(∀w,w∈F↔yQ ds gs w)->F.length<=2000->H f=none->ae H H'->Q (.ref f) H')->jf K vs H Q E
structure SO(H0 H:Hp)(ds:List av)(gs:Zb)(f:Addr)(X:Zb):Prop where
 f:H f=some (.lst ((gs++X).map V.str))
 same:ae H0 H
 nd:X.Nodup
 new:∀y∈X,y∉gs
 sound:∀y∈X,yQ ds gs y
theorem yQ.step{ds:List av}{gs:Zb}{a b:Str}(h:yQ ds gs a)(e:(⟨a,aJ,b⟩:av)∈ds):yQ ds gs b:=by
 obtain⟨g,f,rfl|h⟩:=h
 ·exact⟨_,f,.inr (.one e)⟩
 ·exact⟨g,f,.inr (.step h e)⟩
theorem yr(a b:Zb):decide (vo a=vo b)=decide (a=b):=by
 by_cases e:a=b
 ·rw[zzr1 e,zzr1 (by rw[e])]
 ·rw[zzr0 e,zzr0 (fun z=>e (CT z))]
inductive SoI(l4 l f:Addr)(at_:Int)(H:Hp)(ds:List av)(gs X:Zb)(here:Str)(j:Nat)(σ:L2.St)(H':Hp):Prop
 |mk (X' Y:Zb) (x y z:Option V):σ=[some (.ref l4),some (.ref l),some (.ref f),some (.int at_),x,y,z]->X'=X++Y->SO H H' ds gs f X'->(∀d∈ds.take j,d.a=here->d.sg=aJ->d.b∈gs++X')->SoI l4 l f at_ H ds gs X here j σ H'
theorem zA{K:Za}{vs:List V}{H:Hp}{Q:VK}{E:XK}(h:jf K vs H Q E):tH K (bJ Q) (start uP vs) H:=by
 obtain⟨l4,l,ts,ds,gs,J5,rfl,h4,ab,hl,aC,hz,a9,k⟩:=h;refine⟨_,rfl,.inl ⟨l,_,rfl,.inl (aA.of hl),fun f hf=>?_⟩⟩;have J:∀{X:Zb},X.Nodup->(∀y∈X,y∉gs)->(∀y∈X,yQ ds gs y)->X.length<=J5.length:=fun nd nw sd=>oS nd fun y hy=>by
  obtain⟨g,hg,e|h⟩:=sd y hy
  ·exact absurd (by rw[e];exact hg) (nw y hy)
  ·exact h.in_ aC
 refine⟨fun m σ H'=>∃(X:Zb) (at_:Nat) (x y z:Option V),σ=[some (.ref l4),some (.ref l),some (.ref f),some (.int at_),x,y,z]/\SO H H' ds gs f X/\at_<=(gs++X).length/\(∀i y,i<at_->(gs++X)[i]?=some y->∀c,(⟨y,aJ,c⟩:av)∈ds->c∈gs++X)/\m=gs.length+J5.length-at_,
  ⟨_,[],0,_,_,_,rfl,⟨by rw[dA];exact aa,ae.new hf,j6,by simp,by simp⟩,cf _,fun i y h=>by omega,rfl⟩,?_⟩
 rintro m σ H1 ⟨X,at_,x4,x5,x6,rfl,D,bd,ai,rfl⟩;have bi:=J D.nd D.new D.sound;refine⟨_,rfl,_,rfl,.inl ⟨f,_,rfl,.inl (aA.of D.f),_,_,rfl,rfl,_,rfl,?_⟩⟩;refine dz (fun M=>?_) (fun M=>?_)
 ·have v:at_<(gs++X).length:=by
   have:=of_decide_eq_true M;rw[aq]at this;omega
  have a6:at_<gs.length+J5.length:=by rw[aV]at v;omega
  generalize N:(gs++X)[at_]=here;have G:(gs++X)[at_]?=some here:=by rw[<-N];exact ef v
  have O:∀{Y:Zb}{y:Str},(∀y∈Y,yQ ds gs y)->y∈gs++Y->yQ ds gs y:=fun sd hy=>by
   rcases bu.mp hy with hy|hy
   ·exact⟨_,hy,.inl rfl⟩
   ·exact sd _ hy
  refine⟨fun σ' H'=>∃(L:Zb) (x y z:Option V),σ'=[some (.ref l4),some (.ref l),some (.ref f),some (.int ((at_+1:Nat):Int)),x,y,z]/\SO H H' ds gs f L/\at_+1<=(gs++L).length/\(∀i y,i<at_+1->(gs++L)[i]?=some y->∀c,(⟨y,aJ,c⟩:av)∈ds->c∈gs++L),
   fun σ' H' ⟨L,x,y,z,e,D',h1,h2⟩=>⟨_,(by omega:gs.length+J5.length-(at_+1)<gs.length+J5.length-at_),L,at_+1,x,y,z,e,D',h1,h2,rfl⟩,?_⟩
  refine⟨_,rfl,l4,rfl,⟨_,aA.of (D.same _ _ h4)⟩,?_⟩;refine gZ (xs:=ts.map V.ref) (SoI l4 l f at_ H ds gs X here)
   ⟨X,[],_,_,_,rfl,by simp,D,by simp⟩ (fun j σ H' _ zq=>by obtain⟨_,_,_,_,_,_,_,D',_⟩:=zq;exact aA.of (D'.same _ _ h4)) ?_ ?_
  ·rintro j y σ H2 hj ⟨L,Y,aH,aT,aX,rfl,rfl,B,p⟩;obtain⟨t,ht,rfl⟩:=dj hj;obtain⟨dr,aj,ak⟩:=Paired.getL ab ht;obtain⟨s,a0,a4⟩:=ak.kt (ae.kt B.same);have al:=ca aj;have a7:=J B.nd B.new B.sound;have T:(gs++(X++Y))[at_]?=some here:=by
    rw[<-dU,k_ v];exact G
   refine⟨t,_,rfl,cq.of a0,rfl,_,_,rfl,_,_,rfl,_,_,rfl,rfl,?_⟩;have u:∀(H3:Hp) (X3 Y3:Zb) (q4 q5 q6:Option V),X3=X++Y3->SO H H3 ds gs f X3->(∀y∈X++Y,y∈X3)->(dr.a=here->dr.sg=aJ->dr.b∈gs++X3) ->
     SoI l4 l f at_ H ds gs X here (j+1) [some (.ref l4),some (.ref l),some (.ref f),some (.int at_),q4,q5,q6] H3:=by
    intro H3 X3 Y3 q4 q5 q6 e C an ap;refine⟨X3,Y3,q4,q5,q6,rfl,e,C,fun d hd e1 e2=>?_⟩;rw[take_snoc aj]at hd;rcases bu.mp hd with hd|hd
    ·rcases bu.mp (p d hd e1 e2)with h|h
     ·exact cL _ h
     ·exact dI _ (an _ h)
    ·have:d=dr:=by simpa using hd
     subst this;exact ap e1 e2
   refine⟨_,rfl,_,rfl,_,rfl,.inl ⟨f,_,_,_,rfl,rfl,aA.of B.f,bW (j:=at_) (by rw[bD,T];rfl),bx dr.a,bx here,jm _,jm _,(by show 0<=8;decide),(by show 0<=8;decide),_,rfl,?_⟩⟩;rw[HI];by_cases c1:dr.a=here;rotate_left
   ·rw[zzr0 c1];exact bC (bC (u H2 _ _ _ _ _ rfl B (fun _ h=>h) fun e=>absurd e c1))
   rw[zzr1 c1];refine bI ?_;refine⟨_,rfl,(by show 1<=ao;decide),fun st I=>⟨vo dr.sg,vo aJ,f_ (cq.of (kp a4 I)),f_ (cq.of aa),by rw[jl];decide,by rw[jl];decide,_,rfl,?_⟩⟩;rw[yr];have C:SO H (upd H2 st (.tup [.str "still"])) ds gs f (X++Y):=⟨kp B.f I,B.same.trans (ae.new I),B.nd,B.new,B.sound⟩;have a8:H st=none:=B.same.free I;generalize upd H2 st (.tup [.str "still"])=H3 at C ⊢;by_cases c2:dr.sg=aJ;rotate_left
   ·rw[zzr0 c2];exact bC (bC (u H3 _ _ _ _ _ rfl C (fun _ h=>h) fun _ e=>absurd e c2))
   rw[zzr1 c2];refine bI ?_;refine⟨_,rfl,_,rfl,bx dr.b,(gs++(X++Y)).map bx,f,_,jm _,rfl,.inl (aA.of C.f),f6 _,(by show 0<=8;decide),by rw[bZ];decide,_,rfl,?_⟩;rw[if_pos rfl];by_cases c3:dr.b∈gs++(X++Y)
   ·rw[zzr1 (l_.mpr c3)];exact bC (u H3 _ _ _ _ _ rfl C (fun _ h=>h) fun _ _=>c3)
   rw[zzr0 (fun z=>c3 (l_.mp z))];refine bI ?_;refine⟨_,rfl,.inl ⟨rfl,_,aA.of C.f⟩,_,rfl,f,_,_,rfl,rfl,C.f,by rw[aq,aV];exact bb (by omega),?_⟩;have U:(⟨here,aJ,dr.b⟩:av)∈ds:=by
    have:dr=⟨here,aJ,dr.b⟩:=by cases dr;simp only at c1 c2;rw[c1,c2]
    rw[<-this];exact al
   refine u _ (X++(Y++[dr.b])) _ _ _ _ rfl ⟨?_,?_,?_,?_,?_⟩ ?_ ?_
   ·rw[aa];have:gs++(X++(Y++[dr.b]))=gs++(X++Y)++[dr.b]:=by simp
    rw[this,aK (l₂:=[dr.b])]
    rfl
   ·intro b o q;rw[am (ah q hf)];exact C.same _ _ q
   ·rw[<-dU,fQ];refine⟨C.nd,by simp,fun a ha b hb e=>?_⟩;have:b=dr.b:=by simpa using hb
    exact c3 (dI _ (by rw[<-this,<-e];exact ha))
   ·intro y hy;rw[<-dU]at hy;rcases bu.mp hy with hy|hy
    ·exact C.new y hy
    ·have:y=dr.b:=by simpa using hy
     rw[this];exact fun z=>c3 (cL _ z)
   ·intro y hy;rw[<-dU]at hy;rcases bu.mp hy with hy|hy
    ·exact C.sound y hy
    ·have:y=dr.b:=by simpa using hy
     rw[this];exact(O D.sound (ca G)).step U
   ·intro y hy;rw[<-dU];exact cL _ hy
   ·intro _ _;exact dI _ (by simp)
  ·rintro σ H2 ⟨L,Y,aH,aT,aX,rfl,rfl,B,p⟩;rw[aq,Paired.length ab,cO]at p;refine⟨_,rfl,_,_,rfl,rfl,X++Y,_,_,_,rfl,B,?_,fun i y hi hy c hc=>?_⟩
   ·rw[<-dU,aV];omega
   ·by_cases e:i=at_
    ·subst e;rw[<-dU,k_ v,G]at hy;have:=d4 hy;subst this;exact p _ hc rfl rfl
    ·have a5:i<at_:=by omega
     rw[<-dU,k_ (by omega)]at hy;have:=ai i y a5 hy c hc;rw[<-dU];exact cL _ this
 ·have as:at_=(gs++X).length:=by
   have:¬(at_<(gs++X).length):=fun z=>M (zzr1 (by rw[aq];omega));omega
  refine⟨_,rfl,k f (gs++X) H1 D.f (fun w=>⟨fun hw=>?_,fun hw=>?_⟩) (by rw[aV];omega) hf D.same⟩
  ·rcases bu.mp hw with hw|hw
   ·exact⟨_,hw,.inl rfl⟩
   ·exact D.sound _ hw
  ·have closed:∀y∈gs++X,∀c,(⟨y,aJ,c⟩:av)∈ds->c∈gs++X:=fun y hy c hc=>by
    obtain⟨n,hn⟩:=List.getElem?_of_mem hy;exact ai n y (by rw[as];exact(dg.mp hn).1) hn c hc
   obtain⟨g,hg,rfl|h⟩:=hw
   ·exact cL _ hg
   ·induction h with
    |one e=>exact closed _ (cL _ hg) _ e
    |step r e ih=>exact closed _ ih _ e

theorem ip{a:List av}{i:Nat}{d:av}{p:av->Bool}(h:a[i]?=some d):(a.take (i+1)).filter p=(a.take i).filter p++(if p d=true then[d]else[]):=by
 rw[take_snoc h,sQ];congr 1;by_cases c:p d=true
 ·rw[if_pos c];simp[c]
 ·rw[if_neg c];simp[c]
theorem D_(a:Zb){j k:Nat}(f:j<=k)(e:k<=a.length):dq (a.map V.str) (some (j:Int)) (some (k:Int))=((a.drop j).take (k-j)).map V.str:=by
 unfold dq;rw[HT.sIx_nat,HT.sIx_nat,aq,mO e,mO (aP f e),jY,kS]
theorem cq.same{K:Za}{H e:Hp}{a:Addr}{xs:List V}(S:ae H e)(h:cq K H a xs):cq K e a xs:=by
 rcases h with(h|⟨o,h⟩)|h
 ·exact .inl (.inl (S _ _ h))
 ·exact .inl (.inr ⟨o,S _ _ h⟩)
 ·exact .inr h
theorem aA.same{K:Za}{H e:Hp}{a:Addr}{xs:List V}(S:ae H e)(h:aA K H a xs):aA K e a xs:=by
 rcases h with(h|⟨o,h⟩)|h
 ·exact .inl (.inl (S _ _ h))
 ·exact .inl (.inr ⟨o,S _ _ h⟩)
 ·exact .inr h
mutual
theorem kF.same{K:Za}{H f:Hp}(S:ae H f):∀{d:DT}{v:V},kF K H d v->kF K f d v
 |.k a,v,h=>by unfold kF at h ⊢;exact h
 |.t l,v,h=>by
  unfold kF at h ⊢;obtain⟨b,xs,e,q,r⟩:=h;exact⟨b,xs,e,cq.same S q,DIns.same S r⟩
 |.s l,v,h=>by
  unfold kF at h ⊢;obtain⟨b,xs,e,q,r⟩:=h;exact⟨b,xs,e,aA.same S q,DIns.same S r⟩
theorem DIns.same{K:Za}{H g:Hp}(S:ae H g):∀{f:List DT}{a:List V},DIns K H f a->DIns K g f a
 |[],a,h=>by unfold DIns at h ⊢;exact h
 |d::f,a,h=>by
  unfold DIns at h ⊢;obtain⟨v,i,e,q,r⟩:=h;exact⟨v,i,e,kF.same S q,DIns.same S r⟩
end
theorem uC{n:Nat}:∀{a:List DT}{i:Nat}{d:DT},DT.depths a<=n->a[i]?=some d->d.depth<=n
 |[],i,d,_,e=>by simp at e
 |x::a,i,d,h,e=>by
  have f:max (DT.depth x) (DT.depths a)<=n:=h;cases i with
  |zero=>simp at e;subst e;omega
  |succ i=>simp at e;exact uC (by omega) e
open Classical in
theorem z8(xs:List V)(k:Nat):dq xs none (some (k:Int))=xs.take k:=by
 unfold dq;rw[HT.sIx_none,HT.sIx_nat,kT,sV,List.take_eq_take_iff];omega
theorem uF(xs:List V)(k:Nat):dq xs (some (k:Int)) none=xs.drop k:=by
 unfold dq;rw[HT.sIx_none,HT.sIx_nat,pB (by rw[fc];omega)];by_cases h:k<=xs.length
 ·rw[mO h]
 ·rw[wx (by omega),pC (by simp),pC (by omega)]
def tL(K:Za):TS :=
 bf (du (fU K) (aF (zh K V0 "own_asks")))
def uT:List Str:=["self"]
def tK(K:Za):TS :=
 bf (du (fU K) (aF (zh K V0 "own_says")))
def uS:List Str:=["self"]
theorem EU{C x:Addr}{H:Hp}{j k l:Zb}{m:List av}(h:ia C H x j k l m):∃(i:Addr) (fs:List (Str×V)) (f g lv:Addr) (a:List (Str×Addr)),H x=some (.ins C i fs)/\lk "asks" fs=none/\lk "says" fs=none/\lk "doors_from" fs=none/\lk "is_quiet" fs=none/\lk "own_asks" fs=some (.ref f)/\lk "own_says" fs=some (.ref g)/\lk "leaving" fs=some (.ref lv) /\
  H f=some (.lst (j.map V.str))/\H g=some (.lst (k.map V.str))/\a.map (·.1)=l/\H lv=some (.dK (dX Sum.inr a))/\(∀x∈a,∃n,H x.2=some (.lst (n.map V.ref))/\dE H n (cG m x.1)):=by
 obtain⟨i,fs,f,g,I,J,lv,M,N,O,Q,a,p,q,o,a1,a2,a3,T,r,s,U,Y,t,b6,b7,b8,L,u,v,w,c4,G,d1,d2,d3⟩:=h.at_;obtain⟨y,z,e,B,D,e3,E⟩:=h.more;rw[o]at e;cases e;exact⟨i,fs,f,g,lv,a,o,B,D,E,a1,r,s,t,L.a1,L.a2,u,v,w⟩
inductive sB(C:Addr)(vs:List V)(H:Hp)(Q:VK)(E:XK):Prop
 |mk (x:Addr) (J0 J4 J5:Zb) (ds:List av):(vs=[.ref x])->(ia C H x J0 J4 J5 ds)->(∀l,H l=none->Q (.ref l) (upd H l (.lst (J0.map V.str))))->sB C vs H Q E
theorem Ha{K:Za}{C:Addr}(M:MC K C){a:List V}{H:Hp}{Q:VK}{E:XK}(h:sB C a H Q E):tL K (bJ Q) (start uT a) H:=by
 obtain⟨x,m,n,o,p,rfl,h,k⟩:=h;obtain⟨f,fs,e,q,lv,g,i,a1,a2,a3,r,j,s,t,l,u,_⟩:=EU h;exact⟨_,rfl,x,C,f,fs,.ref e,rfl,i,M.cls,M.a1,j,.inl ⟨e,_,rfl,.inl (aA.of l),k⟩⟩
inductive sy(C:Addr)(vs:List V)(H:Hp)(Q:VK)(E:XK):Prop
 |mk (x:Addr) (J0 J4 J5:Zb) (ds:List av):(vs=[.ref x])->(ia C H x J0 J4 J5 ds)->(∀l,H l=none->Q (.ref l) (upd H l (.lst (J4.map V.str))))->sy C vs H Q E
theorem G9{K:Za}{C:Addr}(M:MC K C){a:List V}{H:Hp}{Q:VK}{E:XK}(h:sy C a H Q E):tK K (bJ Q) (start uS a) H:=by
 obtain⟨x,m,n,o,p,rfl,h,k⟩:=h;obtain⟨f,fs,q,e,lv,g,i,a1,a2,a3,r,s,j,t,u,l,_⟩:=EU h;exact⟨_,rfl,x,C,f,fs,.ref e,rfl,i,M.cls,M.a2,j,.inl ⟨e,_,rfl,.inl (aA.of l),k⟩⟩
mutual
def DR(K:Za)(G:Hp):DT->V->Prop
 |.k a,v=>v=kV a
 |.t l,v=>∃b xs,v=.ref b/\cq K G b xs/\DRs K G l xs
 |.s l,v=>∃b xs,v=.ref b/\G b=some (.lst xs)/\DRs K G l xs
def DRs(K:Za)(G:Hp):List DT->List V->Prop
 |[],vs=>vs=[]
 |k::r,vs=>∃v us,vs=v::us/\DR K G k v/\DRs K G r us
end
mutual
theorem DR.same{K:Za}{H f:Hp}(S:ae H f):∀{d:DT}{v:V},DR K H d v->DR K f d v
 |.k a,v,h=>by unfold DR at h ⊢;exact h
 |.t l,v,h=>by
  unfold DR at h ⊢;obtain⟨b,xs,e,q,r⟩:=h;exact⟨b,xs,e,cq.same S q,DRs.same S r⟩
 |.s l,v,h=>by
  unfold DR at h ⊢;obtain⟨b,xs,e,q,r⟩:=h;exact⟨b,xs,e,S _ _ q,DRs.same S r⟩
theorem DRs.same{K:Za}{H g:Hp}(S:ae H g):∀{f:List DT}{a:List V},DRs K H f a->DRs K g f a
 |[],a,h=>by unfold DRs at h ⊢;exact h
 |d::f,a,h=>by
  unfold DRs at h ⊢;obtain⟨v,i,e,q,r⟩:=h;exact⟨v,i,e,DR.same S q,DRs.same S r⟩
end
mutual
theorem DR.dIn{K:Za}{H:Hp}:∀{d:DT}{v:V},DR K H d v->kF K H d v
 |.k a,v,h=>by unfold DR at h;unfold kF;exact h
 |.t l,v,h=>by
  unfold DR at h;unfold kF;obtain⟨b,xs,e,q,r⟩:=h;exact⟨b,xs,e,q,DRs.dIns r⟩
 |.s l,v,h=>by
  unfold DR at h;unfold kF;obtain⟨b,xs,e,q,r⟩:=h;exact⟨b,xs,e,aA.of q,DRs.dIns r⟩
theorem DRs.dIns{K:Za}{H:Hp}:∀{f:List DT}{a:List V},DRs K H f a->DIns K H f a
 |[],a,h=>by unfold DRs at h;unfold DIns;exact h
 |d::f,a,h=>by
  unfold DRs at h;unfold DIns;obtain⟨v,g,e,q,r⟩:=h;exact⟨v,g,e,DR.dIn q,DRs.dIns r⟩
end
theorem DRs.paired{K:Za}{G:Hp}:∀{e:List DT}{a:List V},DRs K G e a->Paired (fun v d=>DR K G d v) a e
 |[],a,h=>by unfold DRs at h;subst h;exact .nil
 |d::e,a,h=>by
  unfold DRs at h;obtain⟨v,f,rfl,q,r⟩:=h;exact .cons q (DRs.paired r)
theorem DRs.len{K:Za}{G:Hp}{a:List DT}{e:List V}(h:DRs K G a e):e.length=a.length:=Paired.length h.paired
theorem DRs.getL{K:Za}{G:Hp}{a:List DT}{f:List V}{i:Nat}{v:V}(h:DRs K G a f)(e:f[i]?=some v):∃d,a[i]?=some d/\DR K G d v:=Paired.getL h.paired e
structure AV where
 p:Hp->V->Prop
 mono:∀{G G':Hp}{v:V},ae G G'->p G v->p G' v
def dv(K:Za)(d:DT):AV:=⟨fun G v=>DR K G d v,fun S h=>DR.same S h⟩
def bv(b:Bool):AV:=⟨fun _ v=>v=.bl b,fun _ h=>h⟩
def nv:AV:=⟨fun _ v=>v=.non,fun _ h=>h⟩
abbrev J_(n:Int):DT:=.k (.inl n)
section
variable{K:Za}
def RV(v:V)(z:AV):Prop:=∀G,z.p G v
theorem I0{n:Int}:RV (.int n) (dv K (J_ n)):=fun G=>by show DR K G _ _;unfold DR;rfl
theorem tX{w:Str}:RV (.str w) (dv K (bx w)):=fun G=>by show DR K G _ _;unfold bx DR;rfl
theorem jS{G:Hp}:∀a:List Str,DRs K G (a.map bx) (a.map V.str)
 |[]=>by unfold DRs;rfl
 |w::a=>by
  rw[aS,aS];unfold DRs;exact⟨_,_,rfl,tX (K:=K) G,jS a⟩
def HX(J0 J4 J5:Zb)(ds:List av):DT:=.t [.s (J0.map bx),.s (J4.map bx),.s (J5.map bx),.s (ds.map lK)]
theorem HG{G:Hp}{s:Addr}{a:Zb}(h:cq K G s (a.map V.str)):DR K G (vo a) (.ref s):=by
 unfold vo DR;exact⟨s,_,rfl,h,jS a⟩
theorem HH{G:Hp}{t:Addr}{d:av}(h:fm G t d):DR K G (lK d) (.ref t):=by
 obtain⟨s,a,e⟩:=h;unfold lK DR;refine⟨t,_,rfl,cq.of a,?_⟩;unfold DRs;refine⟨_,_,rfl,tX (K:=K) G,?_⟩;unfold DRs;refine⟨_,_,rfl,HG (cq.of e),?_⟩;unfold DRs;refine⟨_,_,rfl,tX (K:=K) G,?_⟩;unfold DRs
 rfl
theorem qC{G:Hp}:∀{a:Ze}{e:List av},dE G a e->DRs K G (e.map lK) (a.map V.ref)
 |_,_,.nil=>by unfold DRs;rfl
 |_,_,.cons h r=>by
  rw[aS,aS];unfold DRs;exact⟨_,_,rfl,HH h,qC r⟩
theorem HF{G:Hp}{t k m n o:Addr}{p:Ze}{e f g:Zb}{i:List av}(T:qH G t k m n o p e f g i):DR K G (HX e f g i) (.ref t):=by
 have a:∀{l:Addr}{j:Zb},G l=some (.lst (j.map V.str))->DR K G (.s (j.map bx)) (.ref l):=fun h=>by unfold DR;exact⟨_,_,rfl,h,jS _⟩
 unfold HX DR;refine⟨t,_,rfl,cq.of T.t,?_⟩;unfold DRs;refine⟨_,_,rfl,a T.a1,?_⟩;unfold DRs;refine⟨_,_,rfl,a T.a2,?_⟩;unfold DRs;refine⟨_,_,rfl,a T.a3,?_⟩;unfold DRs;refine⟨_,_,rfl,by unfold DR;exact⟨_,_,rfl,T.a4,qC T.ds⟩,?_⟩;unfold DRs
 rfl
end
inductive Sl where
 |no
 |im (a:AV)
 |lc (n:Nat)
 |pn
inductive Ce where
 |lst (xs:List Sl)
 |dk (kvs:List (eE×Sl))
 |dt (kvs:List (TK×Sl))
 |ins (C:Addr) (fs:List (Str×Sl))
 |fk (o:Obj) (l:List (eE×V)) (kvs:List (eE×Sl))
abbrev SH:=List (Nat×Ce)
structure Mp where
 G:Hp
 H:Hp
 ad:Nat->Addr
 P:Addr->Prop
def Ok(m:Mp)(h:SH):Sl->V->Prop
 |.no,_=>True
 |.im a,v=>a.p m.G v
 |.lc n,v=>(∃c,(n,c)∈h)/\v=.ref (m.ad n)
 |.pn,v=>∃p c o,v=.ref p/\m.P p/\m.G c=some o/\fA m.H p c
abbrev rO(m:Mp)(h:SH):List V->List Sl->Prop:=Paired fun v x=>Ok m h x v
def yT(m:Mp)(h:SH)(a:Addr):Ce->Prop
 |.lst xs=>∃vs,m.H a=some (.lst vs)/\rO m h vs xs
 |.dk kvs=>∃vs,m.H a=some (.dK ((kvs.map (·.1)).zip vs))/\rO m h vs (kvs.map (·.2))
 |.dt kvs=>∃vs,m.H a=some (.dT ((kvs.map (·.1)).zip vs))/\rO m h vs (kvs.map (·.2))
 |.ins C fs=>∃dx vs,m.H a=some (.ins C dx ((fs.map (·.1)).zip vs))/\rO m h vs (fs.map (·.2))
 |.fk o l kvs=>m.H a=some (.frz o (.dK l))/\Paired (fun(p:eE×V) (q:eE×Sl)=>p.1=q.1/\Ok m h q.2 p.2) l kvs
structure Wf(m:Mp)(h:SH):Prop where
 s:ae m.G m.H
 p:∀a,m.P a->m.G a=none/\m.H a≠none
 c:∀n c,(n,c)∈h->m.G (m.ad n)=none/\¬m.P (m.ad n)/\yT m h (m.ad n) c
 i:∀n c n' c',(n,c)∈h->(n',c')∈h->m.ad n=m.ad n'->n=n'
 u:(h.map (·.1)).Nodup
structure Bs where
 G:Hp
 H:Hp
 P:Addr->Prop
 M:Addr->Prop
 R:Addr->Prop
 N:List (Nat×Addr)
structure Fr(B:Bs)(m:Mp)(h:SH):Prop where
 gg:ae B.G m.G
 hh:∀a o,B.H a=some o->¬B.P a->¬B.M a->m.H a=some o
 al:∀a,B.H a≠none->m.H a≠none
 fr:∀a,m.G a≠none->B.G a≠none∨B.H a=none
 pe:∀p c o,B.P p->B.G c=some o->fA B.H p c->fA m.H p c
 pp:∀a,B.P a↔m.P a
 ow:∀n c,(n,c)∈h->B.H (m.ad n)=none∨B.M (m.ad n)∨B.R (m.ad n)
 nd:∀n a,(n,a)∈B.N->1000<=n/\m.ad n=a/\∃c,(n,c)∈h
structure Rw(B:Bs)(s:List Sl)(h:SH)(T:List Sl)(σ:L2.St)(vs:List V)(m:Mp):Prop where
 fr:Fr B m h
 wf:Wf m h
 len:s.length=σ.length
 sl:∀(i:Nat) (x:Sl),s[i]?=some x->x=.no∨∃v,σ[i]?=some (some v)/\Ok m h x v
 tm:rO m h vs T
def A(B:Bs)(s:List Sl)(h:SH)(T:List Sl)(σ:L2.St)(vs:List V)(H:Hp):Prop:=∃m,m.H=H/\Rw B s h T σ vs m
theorem yT.some{m:Mp}{h:SH}{a:Addr}{c:Ce}(x:yT m h a c):∃o,m.H a=some o:=by
 cases c with
 |lst xs=>obtain⟨f,e,_⟩:=x;exact⟨_,e⟩
 |dk xs=>obtain⟨f,e,_⟩:=x;exact⟨_,e⟩
 |dt xs=>obtain⟨f,e,_⟩:=x;exact⟨_,e⟩
 |ins C fs=>obtain⟨g,f,e,_⟩:=x;exact⟨_,e⟩
 |fk o l xs=>exact⟨_,x.1⟩
structure Mv(m:Mp)(h:SH)(m':Mp)(h':SH):Prop where
 gg:ae m.G m'.G
 s:ae m'.G m'.H
 hh:∀a o,m.H a=some o->¬m.P a->m'.H a=some o
 al:∀a,m.H a≠none->m'.H a≠none
 fr:∀a,m'.G a≠none->m.G a≠none∨m.H a=none
 pe:∀p c o,m.P p->m.G c=some o->fA m.H p c->fA m'.H p c
 pp:m'.P=m.P
 ad:∀n c,(n,c)∈h->m'.ad n=m.ad n
 nm:∀n c,(n,c)∈h->∃c',(n,c')∈h'
theorem Ok.mv{m f:Mp}{h g:SH}(M:Mv m h f g):∀{x:Sl}{v:V},Ok m h x v->Ok f g x v
 |.no,_,_=>eU
 |.im a,_,q=>a.mono M.gg q
 |.lc n,v,⟨⟨c,i⟩,e⟩=>⟨M.nm n c i,by rw[M.ad n c i];exact e⟩
 |.pn,v,⟨p,c,o,l,j,k,r⟩=>⟨p,c,o,l,by rw[M.pp];exact j,M.gg _ _ k,M.pe p c o j k r⟩
theorem yT.mv{m m':Mp}{h i:SH}{a:Addr}{c:Ce}(M:Mv m h m' i)(g:¬m.P a)(x:yT m h a c):yT m' i a c:=by
 cases c with
 |lst xs=>obtain⟨f,e,r⟩:=x;exact⟨f,M.hh _ _ e g,Paired.mapP r fun v x q=>Ok.mv M q⟩
 |dk xs=>obtain⟨f,e,r⟩:=x;exact⟨f,M.hh _ _ e g,Paired.mapP r fun v x q=>Ok.mv M q⟩
 |dt xs=>obtain⟨f,e,r⟩:=x;exact⟨f,M.hh _ _ e g,Paired.mapP r fun v x q=>Ok.mv M q⟩
 |ins C fs=>obtain⟨j,f,e,r⟩:=x;exact⟨j,f,M.hh _ _ e g,Paired.mapP r fun v x q=>Ok.mv M q⟩
 |fk o l xs=>exact⟨M.hh _ _ x.1 g,Paired.mapP x.2 fun v x q=>⟨q.1,Ok.mv M q.2⟩⟩
theorem Mv.refl{m:Mp}{h:SH}(S:ae m.G m.H):Mv m h m h:=⟨.refl _,S,fun _ _ e _=>e,fun _ e=>e,fun _ e=>.inl e,fun _ _ _ _ _ e=>e,rfl,fun _ _ _=>rfl,fun n c e=>⟨c,e⟩⟩
theorem Mv.trans{m i j:Mp}{h k l:SH}(a:Mv m h i k)(b:Mv i k j l):Mv m h j l :=
 ⟨a.gg.trans b.gg,b.s,fun x o e n=>b.hh x o (a.hh x o e n) (by rw[a.pp];exact n),fun x e=>b.al x (a.al x e),fun x e=>by
  rcases b.fr x e with e|e
  ·exact a.fr x e
  ·refine .inr ?_;cases q:m.H x with
   |none=>rfl
   |some u=>exact absurd e (a.al x (by rw[q];exact nofun)),fun p c o r t e=>b.pe p c o (by rw[a.pp];exact r) (a.gg _ _ t) (a.pe p c o r t e),b.pp.trans a.pp,fun n c e=>by
  obtain⟨f,g⟩:=a.nm n c e;rw[b.ad n f g,a.ad n c e],fun n c e=>by
  obtain⟨f,g⟩:=a.nm n c e;exact b.nm n f g⟩
theorem Rw.mv{B:Bs}{s:List Sl}{h:SH}{T:List Sl}{σ:L2.St}{l:List V}{m k:Mp}(R:Rw B s h T σ l m)(M:Mv m h k h):Rw B s h T σ l k:=by
 refine⟨⟨R.fr.gg.trans M.gg,fun a o e r E=>M.hh a o (R.fr.hh a o e r E) (fun z=>r ((R.fr.pp a).mpr z)),fun a e=>M.al a (R.fr.al a e),fun a e=>?_,fun p c o t w e=>M.pe p c o ((R.fr.pp p).mp t) (R.fr.gg _ _ w) (R.fr.pe p c o t w e),fun a=>by rw[M.pp];exact R.fr.pp a,fun n c e=>by rw[M.ad n c e];exact R.fr.ow n c e,fun n a e=>by
   obtain⟨g,f,c,j⟩:=R.fr.nd n a e;exact⟨g,by rw[M.ad n c j];exact f,c,j⟩⟩,
  ⟨M.s,fun a e=>?_,fun n c e=>?_,fun n c y C e D z=>?_,R.wf.u⟩,R.len,fun i x e=>(R.sl i x e).imp id fun⟨v,e,q⟩=>⟨v,e,Ok.mv M q⟩,Paired.mapP R.tm fun v x q=>Ok.mv M q⟩
 ·rcases M.fr a e with e|e
  ·exact R.fr.fr a e
  ·refine .inr ?_;cases q:B.H a with
   |none=>rfl
   |some u=>exact absurd e (R.fr.al a (by rw[q];exact nofun))
 ·rw[M.pp]at e;obtain⟨g,f⟩:=R.wf.p a e;refine⟨?_,M.al a f⟩;cases q:k.G a with
  |none=>rfl
  |some u=>rcases M.fr a (by rw[q];exact nofun)with z|z;exact absurd g z;exact absurd z f
 ·obtain⟨g,f,j⟩:=R.wf.c n c e;rw[M.ad n c e];refine⟨?_,by rw[M.pp];exact f,j.mv M f⟩;cases q:k.G (m.ad n)with
  |none=>rfl
  |some u =>
   obtain⟨o,I⟩:=j.some;rcases M.fr _ (by rw[q];exact nofun)with z|z
   ·exact absurd g z
   ·rw[I]at z;cases z
 ·rw[M.ad n c e,M.ad y C D]at z;exact R.wf.i n c y C e D z
section
variable{B:Bs}{s:List Sl}{h:SH}{T:List Sl}{σ:L2.St}{vs:List V}{m:Mp}
theorem Rw.push(R:Rw B s h T σ vs m){x:Sl}{v:V}(q:Ok m h x v):A B s h (x::T) σ (v::vs) m.H:=⟨m,rfl,R.fr,R.wf,R.len,R.sl,.cons q R.tm⟩
theorem Rw.drop{x:Sl}{v:V}(R:Rw B s h (x::T) σ (v::vs) m):Rw B s h T σ vs m:=⟨R.fr,R.wf,R.len,R.sl,by cases R.tm with|cons _ r=>exact r⟩
theorem Rw.top{x:Sl}{v:V}(R:Rw B s h (x::T) σ (v::vs) m):Ok m h x v:=by cases R.tm with|cons q _=>exact q
theorem Rw.fresh(R:Rw B s h T σ vs m){l:Addr}(a:m.H l=none):B.H l=none/\m.G l=none/\¬m.P l/\∀n c,(n,c)∈h->m.ad n≠l:=by
 refine⟨?_,R.wf.s.free a,fun z=>(R.wf.p l z).2 a,fun n c e z=>?_⟩
 ·cases q:B.H l with
  |none=>rfl
  |some u=>exact absurd a (R.fr.al l (by rw[q];exact nofun))
 ·obtain⟨o,f⟩:=(R.wf.c n c e).2.2.some;rw[z,a]at f;cases f
theorem Mv.new{l:Addr}{o:HO}(S:ae m.G m.H)(g:m.H l=none):Mv m h { m with G:=upd m.G l o,H:=upd m.H l o } h:=by
 have i:m.G l=none:=S.free g;refine⟨ae.new i,fun b u e=>?_,fun a u e _=>kp e g,fun a e=>?_,fun a e=>?_,fun p c _ _ _ e=>e.ex (ae.new g),rfl,fun _ _ _=>rfl,fun n c e=>⟨c,e⟩⟩
 ·by_cases z:b=l
  ·subst z;have f:upd m.G b o b=some u:=e;rw[aa]at f;show upd m.H b o b=some u;rw[aa];exact f
  ·have f:upd m.G l o b=some u:=e;rw[am z]at f;show upd m.H l o b=some u;rw[am z];exact S _ _ f
 ·show upd m.H l o a≠none;by_cases z:a=l
  ·subst z;rw[aa];exact nofun
  ·rw[am z];exact e
 ·by_cases z:a=l
  ·subst z;exact .inr g
  ·have f:upd m.G l o a≠none:=e;rw[am z]at f;exact .inl f
def free(h:SH)(n:Nat):Prop:=n<1000/\∀c,(n,c)∉h
theorem Hz{h:SH}{n:Nat}(l:n<1000)(e:(h.map (·.1)).contains n=false):free h n:=⟨l,fun c z=>by
 have:n∈h.map (·.1):=aR.mpr ⟨(n,c),z,rfl⟩;have:=List.contains_iff_mem.mpr this;rw[e]at this;cases this⟩
theorem Rw.cell{l:Addr}{n:Nat}{c:Ce}{m':Mp}(R:Rw B s h T σ vs m)(M:Mv m h m' h)(I:free h n)(J:m.H l=none)(L:m'.G l=none)(N:yT { m' with ad:=fun k=>if k=n then l else m'.ad k } ((n,c)::h) l c):
  ∃o:Mp,o.H=m'.H/\o.ad n=l/\Rw B s ((n,c)::h) T σ vs o:=by
 have g:=R.mv M;obtain⟨O,Y,Q,E⟩:=R.fresh J
 let o:Mp:={ m' with ad:=fun k=>if k=n then l else m'.ad k }
 have t:o.ad n=l:=if_pos rfl;have ne:∀k f,(k,f)∈h->k≠n:=fun k f e z=>I.2 f (by rw[<-z];exact e);have r:∀k f,(k,f)∈h->o.ad k=m'.ad k:=fun k f e=>if_neg (ne k f e);have M2:Mv m' h o ((n,c)::h):=⟨.refl _,g.wf.s,fun _ _ e _=>e,fun _ e=>e,fun _ e=>.inl e,fun _ _ _ _ _ e=>e,rfl,r,fun k f e=>⟨f,bQ _ e⟩⟩;have pl:¬m'.P l:=by rw[M.pp];exact Q
 refine⟨o,rfl,t,⟨g.fr.gg,g.fr.hh,g.fr.al,g.fr.fr,g.fr.pe,g.fr.pp,fun k f e=>?_,fun k a e=>?_⟩,⟨g.wf.s,g.wf.p,fun k f e=>?_,fun k f w j e e' z=>?_,?_⟩,g.len,fun i x e=>(g.sl i x e).imp id fun⟨v,e,q⟩=>⟨v,e,Ok.mv M2 q⟩,Paired.mapP g.tm fun v x q=>Ok.mv M2 q⟩
 ·rcases bw.mp e with e|e
  ·cases e;rw[t];exact .inl O
  ·rw[r k f e];exact g.fr.ow k f e
 ·obtain⟨D,y,f,C⟩:=g.fr.nd k a e;exact⟨D,by rw[r k f C];exact y,f,bQ _ C⟩
 ·rcases bw.mp e with e|e
  ·cases e;rw[t];exact⟨L,pl,N⟩
  ·obtain⟨D,y,C⟩:=g.wf.c k f e;rw[r k f e];exact⟨D,y,C.mv M2 y⟩
 ·rcases bw.mp e with e|e
  ·cases e;rcases bw.mp e' with e'|e'
   ·cases e';rfl
   ·rw[t,r w j e',M.ad w j e']at z;exact absurd z.symm (E w j e')
  ·rcases bw.mp e' with e'|e'
   ·cases e';rw[t,r k f e,M.ad k f e]at z;exact absurd z (E k f e)
   ·rw[r k f e,r w j e']at z;exact g.wf.i k f w j e e' z
 ·rw[aS,jw];refine⟨fun z=>?_,g.wf.u⟩;obtain⟨⟨k,f⟩,e,U⟩:=aR.mp z;exact ne k f e U
end
theorem oW{h:SH}{n:Nat}{c:Ce}(e:h.lookup n=some c):(n,c)∈h:=by
 induction h with
 |nil=>cases e
 |cons p h a =>
  obtain⟨k,g⟩:=p;rw[hU]at e;by_cases z:n==k
  ·rw[z]at e;cases e;have:n=k:=by simpa using z
   subst this;exact bR
  ·have f:(n==k)=false:=by simpa using z
   rw[f]at e;exact bQ _ (a e)
def EV(s:List Sl)(h:SH)(t:TE)(φ:Sl->SH->Prop):Prop:=∀B T σ vs H Q,A B s h T σ vs H->(∀x v h' H',φ x h'->A B s h' (x::T) σ (v::vs) H'->Q v H')->t σ H Q
def ET(s:List Sl)(h:SH)(t:TT)(ψ:Bool->SH->Prop):Prop:=∀B T σ vs H Q,A B s h T σ vs H->(∀b h' H',ψ b h'->A B s h' T σ vs H'->Q b H')->t σ H Q
def EA(s:List Sl)(h:SH)(t:TA)(Φ:List Sl->SH->Prop):Prop:=∀B T σ vs H Q,A B s h T σ vs H->(∀xs us h' H',Φ xs h'->us.length=xs.length->A B s h' (xs++T) σ (us++vs) H'->Q us H')->t σ H Q
abbrev eS(K:Za)(d:DT):Sl:=.im (dv K d)
def lv(as:List AV):AV:=⟨fun G v=>∃a vs,v=.ref a/\G a=some (.lst vs)/\Paired (fun v (x:AV)=>x.p G v) vs as,fun S ⟨a,vs,e,h,r⟩=>⟨a,vs,e,S _ _ h,Paired.mapP r fun v x q=>x.mono S q⟩⟩
def tv(as:List AV):AV:=⟨fun G v=>∃a vs,v=.ref a/\G a=some (.tup vs)/\Paired (fun v (x:AV)=>x.p G v) vs as,fun S ⟨a,vs,e,h,r⟩=>⟨a,vs,e,S _ _ h,Paired.mapP r fun v x q=>x.mono S q⟩⟩
inductive Gz(K:Za)(h:SH):Sl->Bool->List Sl->Prop
 |s {ds:List DT}:Gz K h (eS K (.s ds)) true (ds.map (eS K))
 |t {ds:List DT}:Gz K h (eS K (.t ds)) false (ds.map (eS K))
 |v {as:List AV}:Gz K h (.im (lv as)) true (as.map .im)
 |w {as:List AV}:Gz K h (.im (tv as)) false (as.map .im)
 |c {n:Nat}{xs:List Sl}(e:h.lookup n=some (.lst xs)):Gz K h (.lc n) true xs
inductive BP(K:Za)(h:SH):Sl->DT->Prop
 |d {d:DT}:BP K h (eS K d) d
 |c {n:Nat}{xs:List Sl}{ds:List DT}(e:h.lookup n=some (.lst xs)) (r:Paired (BP K h) xs ds):BP K h (.lc n) (.s ds)
inductive BT(K:Za):List Sl->List DT->Prop
 |nil:BT K [] []
 |cons {d:DT}{xs:List Sl}{ds:List DT}:BT K xs ds->BT K (eS K d::xs) (d::ds)
inductive Ep:List Sl->List AV->Prop
 |nil:Ep [] []
 |cons {a:AV}{xs:List Sl}{as:List AV}:Ep xs as->Ep (.im a::xs) (a::as)
section
variable{K:Za}{m:Mp}{h:SH}
theorem Ip{a:List DT}:∀{us:List V},DRs K m.G a us->rO m h us (a.map (eS K)):=by
 induction a with
 |nil=>intro us q;unfold DRs at q;subst q;exact .nil
 |cons d a e=>intro us q;unfold DRs at q;obtain⟨v,us,rfl,f,g⟩:=q;exact .cons f (e g)
theorem FL:∀{a:List AV}{e:List V},Paired (fun v (x:AV)=>x.p m.G v) e a->rO m h e (a.map .im)
 |_,_,.nil=>.nil
 |_,_,.cons q r=>.cons q (FL r)
theorem Gz.view{x:Sl}{b:Bool}{xs:List Sl}{v:V}(q:Gz K h x b xs)(W:Wf m h)(o:Ok m h x v):∃a f,v=.ref a/\rO m h f xs/\(b=true->m.H a=some (.lst f))/\(b=false->cq K m.H a f):=by
 cases q with
 |@s k =>
  have j:DR K m.G (.s k) v:=o;unfold DR at j;obtain⟨a,f,e,g,i⟩:=j;exact⟨a,f,e,Ip i,fun _=>W.s _ _ g,nofun⟩
 |@t k =>
  have j:DR K m.G (.t k) v:=o;unfold DR at j;obtain⟨a,f,e,g,i⟩:=j;exact⟨a,f,e,Ip i,nofun,fun _=>cq.same W.s g⟩
 |v=>obtain⟨a,f,e,g,i⟩:=o;exact⟨a,f,e,FL i,fun _=>W.s _ _ g,nofun⟩
 |w=>obtain⟨a,f,e,g,i⟩:=o;exact⟨a,f,e,FL i,nofun,fun _=>cq.of (W.s _ _ g)⟩
 |c e =>
  obtain⟨_,rfl⟩:=o;obtain⟨_,_,f,g,i⟩:=W.c _ _ (oW e);exact⟨_,f,rfl,i,fun _=>g,nofun⟩
theorem CN{x:Sl}{d:DT}(q:BP K h x d)(W:Wf m h):∀{v:V},Ok m h x v->kF K m.H d v:=by
 have f:∀(n:Nat) {x:Sl}{d:DT},d.depth<=n->BP K h x d->∀{v:V},Ok m h x v->kF K m.H d v:=by
  intro n
  induction n with
  |zero =>
   intro x d a q v o;cases q with
   |d=>exact kF.same W.s (DR.dIn o)
   |c e r=>exact absurd a (by show ¬(DT.depths _+1<=0);omega)
  |succ n w =>
   intro x d a q v o;cases q with
   |d=>exact kF.same W.s (DR.dIn o)
   |@c k xs l e r =>
    obtain⟨_,rfl⟩:=o;obtain⟨_,_,p,t,u⟩:=W.c _ _ (oW e);have g:DT.depths l<=n:=by have:DT.depths l+1<=n+1:=a;omega
    unfold kF;refine⟨_,p,rfl,aA.of t,?_⟩;clear e t a
    induction r generalizing p with
    |nil=>cases u;unfold DIns;rfl
    |@cons y z G i B I j =>
     cases u with
     |cons C D =>
      have E:max (DT.depth z) (DT.depths i)<=n:=g;unfold DIns;exact⟨_,_,rfl,w (by omega) B C,j _ D (by omega)⟩
 exact fun{v} o=>f _ (aG _) q o
theorem BT.view{xs:List Sl}{e:List DT}(q:BT K xs e):∀{a:List V},rO m h a xs->DRs K m.G e a:=by
 induction q with
 |nil=>intro a h;cases h;unfold DRs;rfl
 |cons _ f=>intro a h;cases h with|cons g i=>unfold DRs;exact⟨_,_,rfl,g,f i⟩
theorem Ep.view{xs:List Sl}{a:List AV}(q:Ep xs a):∀{us:List V},rO m h us xs->Paired (fun v (x:AV)=>x.p m.G v) us a:=by
 induction q with
 |nil=>intro us h;cases h;exact .nil
 |cons _ e=>intro us h;cases h with|cons f g=>exact .cons f (e g)
end
theorem Paired.cut{R:V->Sl->Prop}:∀{a:List V}{xs:List Sl}{f:List V}{T:List Sl},a.length=xs.length->Paired R (a++f) (xs++T)->Paired R a xs/\Paired R f T
 |[],[],_,_,_,h=>⟨.nil,h⟩
 |[],_::_,_,_,e,_=>by cases e
 |_::_,[],_,_,e,_=>by cases e
 |u::a,x::xs,_,_,e,h=>by
  cases h with
  |cons g i=>obtain⟨j,k⟩:=Paired.cut (by simpa using e) i;exact⟨.cons g j,k⟩
theorem Rw.args{B:Bs}{s:List Sl}{h:SH}{T:List Sl}{σ:L2.St}{f:List V}{m:Mp}{xs:List Sl}{a:List V}(R:Rw B s h (xs++T) σ (a++f) m)(e:a.length=xs.length):rO m h a xs/\Rw B s h T σ f m:=by
 obtain⟨g,i⟩:=Paired.cut e R.tm;exact⟨g,R.fr,R.wf,R.len,R.sl,i⟩
def JY(K:Za)(h:SH)(φ:Sl->SH->Prop)(xs:List Sl):Prop:=(∃ds,BT K xs ds/\φ (eS K (.s ds)) h)∨(∃as,Ep xs as/\φ (.im (lv as)) h)∨∃n,(n<1000/\(h.map (·.1)).contains n=false)/\φ (.lc n) ((n,.lst xs)::h)
section
variable{B:Bs}{s:List Sl}{h:SH}{T:List Sl}{σ:L2.St}{vs:List V}{m m':Mp}
theorem Rw.adopt{K:Za}{φ:Sl->SH->Prop}{xs:List Sl}{f:List V}{l:Addr}(R:Rw B s h T σ vs m)(M:Mv m h m' h)(j:m.H l=none)(i:m'.G l=none)(e:m'.H l=some (.lst f))(o:rO m' h f xs)(q:JY K h φ xs):∃x t,φ x t/\A B s t (x::T) σ (.ref l::vs) m'.H:=by
 have w:Mv m h { m' with G:=upd m'.G l (.lst f) } h:=⟨M.gg.trans (ae.new i),fun b u q=>by
   have g:upd m'.G l (.lst f) b=some u:=q;by_cases z:b=l
   ·subst z;rw[aa]at g;rw[<-g];exact e
   ·rw[am z]at g;exact M.s _ _ g,M.hh,M.al,fun b q=>by
   have g:upd m'.G l (.lst f) b≠none:=q;by_cases z:b=l
   ·subst z;exact .inr j
   ·rw[am z]at g;exact M.fr b g,M.pe,M.pp,M.ad,M.nm⟩
 rcases q with⟨D,a,q⟩|⟨I,a,q⟩|⟨n,C,q⟩
 ·refine⟨_,_,q,(R.mv w).push ?_⟩;show DR K (upd m'.G l (.lst f)) (.s D) (.ref l);unfold DR;exact⟨l,f,rfl,aa,DRs.same (ae.new i) (a.view o)⟩
 ·refine⟨_,_,q,(R.mv w).push ?_⟩;exact⟨l,f,rfl,aa,Paired.mapP (a.view o) fun v x r=>x.mono (ae.new i) r⟩
 ·have fr:=Hz C.1 C.2;obtain⟨J,L,N,O⟩:=R.fresh j;have M2:Mv m' h { m' with ad:=fun k=>if k=n then l else m'.ad k } ((n,.lst xs)::h):=⟨.refl _,M.s,fun _ _ e _=>e,fun _ e=>e,fun _ e=>.inl e,fun _ _ _ _ _ e=>e,rfl,fun k p z=>if_neg (fun y=>fr.2 p (by rw[<-y];exact z)),fun k p z=>⟨p,bQ _ z⟩⟩
  obtain⟨Q,E,a2,R2⟩:=R.cell (c:=.lst xs) M fr j i ⟨f,e,Paired.mapP o fun v x r=>Ok.mv M2 r⟩;refine⟨_,_,q,?_⟩;rw[<-E];exact R2.push ⟨⟨_,bR⟩,by rw[a2]⟩
theorem Mv.newO{l:Addr}{o:HO}(S:ae m.G m.H)(f:m.H l=none):Mv m h { m with H:=upd m.H l o } h:=by
 refine⟨.refl _,S.trans (ae.new f),fun a u e _=>kp e f,fun a e=>?_,fun a e=>.inl e,fun p c _ _ _ e=>e.ex (ae.new f),rfl,fun _ _ _=>rfl,fun n c e=>⟨c,e⟩⟩;show upd m.H l o a≠none;by_cases z:a=l
 ·subst z;rw[aa];exact nofun
 ·rw[am z];exact e
theorem Rw.newLst{K:Za}{φ:Sl->SH->Prop}{xs:List Sl}{e:List V}{l:Addr}(R:Rw B s h T σ vs m)(a:m.H l=none)(g:rO m h e xs)(q:JY K h φ xs):∃x f,φ x f/\A B s f (x::T) σ (.ref l::vs) (upd m.H l (.lst e)) :=
 R.adopt (m':={ m with H:=upd m.H l (.lst e) }) (Mv.newO R.wf.s a) a (R.wf.s.free a) aa (Paired.mapP g fun v x r=>Ok.mv (Mv.newO R.wf.s a) r) q
theorem A.drop{H:Hp}{x:Sl}{v:V}(a:A B s h (x::T) σ (v::vs) H):A B s h T σ vs H:=let⟨m,e,R⟩:=a;⟨m,e,R.drop⟩
theorem A.pushI{H:Hp}(a:A B s h T σ vs H){x:AV}{v:V}(q:∀G,x.p G v):A B s h (.im x::T) σ (v::vs) H:=let⟨m,e,R⟩:=a;⟨m,e,R.fr,R.wf,R.len,R.sl,.cons (q m.G) R.tm⟩
end
section
variable{K:Za}{s:List Sl}{h:SH}{φ:Sl->SH->Prop}{ψ:Bool->SH->Prop}{Φ:List Sl->SH->Prop}{ta tb te:TE}{i:Nat}
theorem aY{x:Sl}(e:s[i]?=some x)(q:φ x h)(hx:x≠.no:=by exact nofun):EV s h (ml i) φ:=by
 intro B T σ g H Q a k;obtain⟨m,rfl,R⟩:=a;rcases R.sl i x e with z|⟨v,f,o⟩
 ·exact absurd z hx
 ·exact⟨v,f,k x v h _ q (R.push o)⟩
theorem kC{w:Str}(q:φ (eS K (bx w)) h):EV s h (tC (.str w)) φ:=fun B T σ e H Q a k=>k _ _ _ _ q (a.pushI (tX (K:=K)))
theorem zZ{b:Bool}(q:φ (.im (bv b)) h):EV s h (tC (.bl b)) φ:=fun B T σ e H Q a k=>k _ _ _ _ q (a.pushI fun G=>rfl)
theorem uA(q:Φ [] h):EA s h bS Φ:=fun B T σ e H Q a k=>k [] [] h H q rfl a
theorem fZ{o:TA}(q:EV s h ta fun x l=>EA s l o fun xs g=>Φ (x::xs) g):EA s h (ay ta o) Φ:=by
 intro B T σ n H Q a k;refine q B T σ n H _ a fun x v l p r a1=>r B _ σ _ p _ a1 fun xs f g t w j a2=>k (x::xs) (v::f) g t w (by simp[j]) ?_;obtain⟨m,e,R⟩:=a2;refine⟨m,e,R.fr,R.wf,R.len,R.sl,?_⟩;have z:∀(xs:List Sl) (f:List V),f.length=xs.length->rO m g (f++v::n) (xs++x::T)->rO m g (v::f++n) (x::xs++T):=by
  intro xs
  induction xs with
  |nil=>intro f j h;cases f with|nil=>exact h|cons _ _=>cases j
  |cons y xs C =>
   intro f j h;cases f with
   |nil=>cases j
   |cons u f =>
    cases h with
    |cons l g =>
     have:=C f (by simpa using j) g;cases this with
     |cons D E=>exact .cons D (.cons l E)
 exact z xs f j R.tm
theorem Az{B:Bs}{T:List Sl}{σ:L2.St}{f:List V}{H:Hp}{b:Bool}{v:V}(a:A B s h (.im (bv b)::T) σ (v::f) H):v=.bl b/\A B s h T σ f H:=by
 obtain⟨m,e,R⟩:=a;exact⟨R.top,m,e,R.drop⟩
theorem Cf{B:Bs}{T:List Sl}{σ:L2.St}{f:List V}{H:Hp}{n:Int}{v:V}(a:A B s h (eS K (J_ n)::T) σ (v::f) H):v=.int n/\A B s h T σ f H:=by
 obtain⟨m,e,R⟩:=a;have:DR K m.G (J_ n) v:=R.top;unfold DR at this;exact⟨this,m,e,R.drop⟩
theorem Cd{B:Bs}{T:List Sl}{σ:L2.St}{f:List V}{H:Hp}{n:Str}{v:V}(a:A B s h (eS K (bx n)::T) σ (v::f) H):v=.str n/\A B s h T σ f H:=by
 obtain⟨m,e,R⟩:=a;have:DR K m.G (bx n) v:=R.top;unfold bx DR at this;exact⟨this,m,e,R.drop⟩
theorem kD(q:EV s h te fun x f=>∃b,x=.im (bv b)/\ψ b f):ET s h (tB te) ψ:=by
 intro B T σ j H Q a k;refine q B T σ j H _ a fun x v f l g a1=>?_;obtain⟨b,e,m⟩:=g;subst e;obtain⟨e,a2⟩:=Az a1;exact⟨b,e,k b f l m a2⟩
theorem HE(q:EV s h te fun x a=>∃b,x=.im (bv b)/\ψ b a):ET s h (bc te) ψ:=kD q
theorem Gj{t:TT}(q:ET s h t fun b e=>ψ (!b) e):ET s h (xm t) ψ:=fun B T σ f H Q a k=>q B T σ f H _ a fun b e g j a1=>k (!b) e g j a1
theorem yj{t u:TT}(q:ET s h t fun b e=>if b=true then ET s e u ψ else ψ false e):ET s h (xB t u) ψ:=by
 intro B T σ f H Q a k;refine q B T σ f H _ a fun b e g j a1=>?_;cases b with
 |true=>exact bI ((if_pos rfl).mp j B T σ f g Q a1 k)
 |false=>exact bC (k false e g ((if_neg nofun).mp j) a1)
theorem JF(q:ψ true h):ET s h jx ψ:=fun B T σ e H Q a k=>k true h H q a
theorem yi(q:EV s h ta fun x f=>∃b,x=.im (bv b)/\if b=true then EV s f tb φ else φ (.im (bv false)) f):EV s h (iK ta tb) φ:=by
 intro B T σ j H Q a k;refine q B T σ j H _ a fun x u f l g a1=>?_;obtain⟨b,e,m⟩:=g;subst e;obtain⟨e,a2⟩:=Az a1;refine⟨b,e,?_⟩;cases b with
 |true=>exact bI ((if_pos rfl).mp m B T σ j l Q a2 k)
 |false=>exact bC (k _ _ f l ((if_neg nofun).mp m) (a2.pushI fun G=>rfl))
theorem HB(q:EV s h ta fun x f=>∃b,x=.im (bv b)/\φ (.im (bv (!b))) f):EV s h (EJ ta) φ:=by
 intro B T σ j H Q a k;refine q B T σ j H _ a fun x u f l g a1=>?_;obtain⟨b,e,m⟩:=g;subst e;obtain⟨e,a2⟩:=Az a1;exact⟨b,e,k _ _ f l m (a2.pushI fun G=>rfl)⟩
inductive yP:Sl->Bool->Prop
 |n:yP (.im nv) true
 |b {b:Bool}:yP (.im (bv b)) false
 |c {n:Nat}:yP (.lc n) false
 |d {K:Za}{d:DT}:yP (eS K d) false
 |l {as:List AV}:yP (.im (lv as)) false
 |t {as:List AV}:yP (.im (tv as)) false
theorem yP.view{x:Sl}{b:Bool}(q:yP x b){m:Mp}{v:V}(o:Ok m h x v):decide (v=.non)=b:=by
 cases q with
 |n=>exact zzr1 o
 |b=>have e:v=.bl _:=o;subst e;rfl
 |c=>obtain⟨_,rfl⟩:=o;rfl
 |@d K d =>
  have e:DR K m.G d v:=o;cases d with
  |k a=>unfold DR at e;subst e;cases a<;>rfl
  |t l=>unfold DR at e;obtain⟨_,_,rfl,_⟩:=e;rfl
  |s l=>unfold DR at e;obtain⟨_,_,rfl,_⟩:=e;rfl
 |l=>obtain⟨_,_,rfl,_⟩:=o;rfl
 |t=>obtain⟨_,_,rfl,_⟩:=o;rfl
theorem JD(q:EV s h ta fun x f=>∃b,yP x b/\φ (.im (bv b)) f):EV s h (EL ta) φ:=by
 intro B T σ j H Q a k;refine q B T σ j H _ a fun x u f n g a1=>?_;obtain⟨b,e,l⟩:=g;obtain⟨m,rfl,R⟩:=a1;rw[e.view R.top];exact k _ _ f _ l (R.drop.push rfl)
theorem Gi(q:EV s h ta fun x g=>EV s g tb fun y f=>∃d e,BP K f x d/\BP K f y e/\d.depth<=8/\e.depth<=8/\φ (.im (bv (decide (d=e)))) f):EV s h (aI (se K) ta tb) φ:=by
 intro B T σ j H Q a k;refine q B T σ j H _ a fun x u g l n a1=>n B _ σ _ l _ a1 fun y v f z o a2=>?_;obtain⟨d,e,p,r,t,w,c⟩:=o;obtain⟨m,rfl,R⟩:=a2;exact⟨d,e,CN p R.wf R.drop.top,CN r R.wf R.top,t,w,k _ _ f _ c (R.drop.drop.push rfl)⟩
theorem JI(i j:Int):decide (V.int i=V.int j)=decide (i=j):=by
 rw[q0,decide_eq_true_iff,decide_eq_true_iff];exact⟨fun z=>by injection z,fun z=>by rw[z]⟩
theorem JB(q:EV s h ta fun x f=>EV s f tb fun y e=>∃i j:Int,x=eS K (J_ i)/\y=eS K (J_ j)/\φ (.im (bv (!decide (i=j)))) e):EV s h (aI Hd ta tb) φ:=by
 intro B T σ g H Q a k;refine q B T σ g H _ a fun x u f l m a1=>m B _ σ _ l _ a1 fun y v e p n a2=>?_;obtain⟨i,j,rfl,rfl,c⟩:=n;obtain⟨rfl,a3⟩:=Cf a2;obtain⟨rfl,o⟩:=Cf a3;refine⟨rfl,?_⟩;rw[JI];exact k _ _ e _ c (o.pushI fun G=>rfl)
theorem Bx{t:TA}(q:EA s h t fun xs f=>∃e,BT K xs e/\xs.length<=ao/\φ (eS K (.t e)) f):EV s h (d7 t) φ:=by
 intro B T σ u H Q a k;refine q B T σ u H _ a fun xs g f x j n a1=>?_;obtain⟨e,v,z,c⟩:=j;obtain⟨m,rfl,R⟩:=a1;obtain⟨w,l⟩:=R.args n;refine⟨by rw[n];exact z,fun p r=>k _ _ f _ c ((l.mv (Mv.new (o:=.tup g) l.wf.s r)).push ?_)⟩;show DR K (upd m.G p (.tup g)) (.t e) (.ref p);unfold DR;exact⟨p,g,rfl,cq.of aa,DRs.same (ae.new (l.wf.s.free r)) (v.view w)⟩
theorem JC{t:TA}(q:EA s h t fun xs f=>xs.length<=ao/\JY K f φ xs):EV s h (eJ t) φ:=by
 intro B T σ j H Q a k;refine q B T σ j H _ a fun xs v f w e g a1=>?_;obtain⟨z,c⟩:=e;obtain⟨m,rfl,R⟩:=a1;obtain⟨l,n⟩:=R.args g;refine⟨by rw[g];exact z,fun p o=>?_⟩;obtain⟨z,r,u,a3⟩:=n.newLst o l c;exact k z _ r _ u a3
theorem Gh{t:TE}(q:EV s h t fun x e=>∃b xs,Gz K e x b xs/\φ (eS K (J_ xs.length)) e):EV s h (du (cD K) (ay t bS)) φ:=by
 intro B T σ g H Q a k;refine q B T σ g H _ a fun x v e u f a1=>?_;obtain⟨b,xs,j,c⟩:=f;obtain⟨m,rfl,R⟩:=a1;obtain⟨p,l,rfl,n,o,r⟩:=j.view R.wf R.top;refine .inl ⟨p,l,rfl,?_,?_⟩
 ·cases b with
  |true=>exact .inl (aA.of (o rfl))
  |false=>exact .inr (r rfl)
 ·rw[Paired.length n];exact k _ _ e _ c (R.drop.push (I0 (K:=K) m.G))
end
abbrev K_(m:Mp)(h:SH)(N:List (Nat×Addr)):Bs:=⟨m.G,m.H,m.P,fun a=>∃n c,(n,c)∈h/\m.ad n=a,fun _=>False,N⟩
def Fin(m:Mp)(h:SH)(Q:VK)(φ:Sl->SH->Prop):Prop:=∀r v h' m',φ r h'->Fr (K_ m h (h.map fun p=>(p.1,m.ad p.1))) m' h'->Wf m' h'->Ok m' h' r v->Q v m'.H
def Cn(sp:Sp)(xs:List Sl)(h:SH)(φ:Sl->SH->Prop):Prop:=∀us m Q E,(∀n c,(n,c)∈h->1000<=n)->Wf m h->rO m h us xs->Fin m h Q φ->sp us m.H Q E
theorem Cn.imp{sp:Sp}{xs:List Sl}{h:SH}{φ φ':Sl->SH->Prop}(c:Cn sp xs h φ)(q:∀r a,φ r a->φ' r a):Cn sp xs h φ':=fun e m Q E g W o f=>c e m Q E g W o fun r v a i j=>f r v a i (q r a j)
def plain:Sl->Prop
 |.im _=>True
 |.pn=>True
 |_=>False
def Res(K:Za)(h:SH)(φ:Sl->SH->Prop)(r:Sl)(h':SH):Prop:=(∃a,r=.im a/\φ r h)∨∃n xs,r=.lc n/\h'.lookup n=some (.lst xs)/\(∀x∈xs,plain x)/\JY K h φ xs
theorem FM{m m':Mp}{h f:SH}{x:Sl}{v:V}(hx:plain x)(e:m'.G=m.G)(g:m'.H=m.H)(i:m'.P=m.P)(o:Ok m h x v):Ok m' f x v:=by
 cases x with
 |no=>exact eU
 |im a=>show a.p m'.G v;rw[e];exact o
 |lc n=>exact hx.elim
 |pn=>obtain⟨p,c,o,j,k,l,q⟩:=o;exact⟨p,c,o,j,by rw[i];exact k,by rw[e];exact l,by rw[g];exact q⟩
theorem Wf.nil{m:Mp}{h:SH}(W:Wf m h):Wf m []:=⟨W.s,W.p,(fun _ _ e=>nomatch e),(fun _ _ _ _ e=>nomatch e),j6⟩
theorem qj{m m':Mp}{h j:SH}(e:m'.G=m.G)(f:m'.H=m.H)(g:m'.P=m.P):∀{i:List V}{xs:List Sl},(∀x∈xs,plain x)->rO m h i xs->rO m' j i xs
 |_,_,_,.nil=>.nil
 |_,_,hx,.cons o r=>.cons (FM (hx _ bR) e f g o) (qj e f g (fun x a=>hx x (bQ _ a)) r)
section
variable{K:Za}{B:Bs}{s:List Sl}{h:SH}{T:List Sl}{σ:L2.St}{vs:List V}{φ:Sl->SH->Prop}
theorem Fr.mv0{m m':Mp}{h f h0:SH}{N:List (Nat×Addr)}{M:Addr->Prop}{R:Addr->Prop}(F:Fr ⟨m.G,m.H,m.P,M,R,N⟩ m' f)(W:Wf m' f)(g:∀a,¬M a):Mv m h { m' with ad:=m.ad } h :=
 ⟨F.gg,W.s,fun a o e n=>F.hh a o e n (g a),F.al,F.fr,F.pe,by funext a;exact propext (F.pp a).symm,fun _ _ _=>rfl,fun n c e=>⟨c,e⟩⟩
theorem Ec{i:Sp}{H:Hp}{Q:VK}{E:XK}{xs:List Sl}{us:List V}(p:∀x∈xs,plain x)(c:Cn i xs [] (Res K h φ))(t:us.length=xs.length)(a:A B s h (xs++T) σ (us++vs) H)
  (k:∀x v f j,φ x f->A B s f (x::T) σ (v::vs) j->Q v j):i us H Q E:=by
 obtain⟨m,rfl,R⟩:=a;obtain⟨u,g⟩:=R.args t;refine c us m Q E (fun _ _ e=>nomatch e) g.wf.nil (qj rfl rfl rfl p u) fun r v f m' q F W o=>?_;have l:∀a,¬∃n c,(n,c)∈([]:SH)/\m.ad n=a:=fun a ⟨_,_,e,_⟩=>nomatch e;have M:Mv m h { m' with ad:=m.ad } h:=Fr.mv0 (h0:=[]) F W l;rcases q with⟨x,rfl,q⟩|⟨n,D,rfl,lk,w,q⟩
 ·exact k _ _ h _ q ((g.mv M).push o)
 ·obtain⟨_,rfl⟩:=o;obtain⟨gn,_,G,e,os⟩:=W.c _ _ (oW lk);have y:m.H (m'.ad n)=none:=by
   rcases F.ow _ _ (oW lk)with z|z|z
   ·exact z
   ·exact absurd z (l _)
   ·exact z.elim
  obtain⟨x,C,hx,a2⟩:=g.adopt M y gn e (qj (m:=m') (m':={ m' with ad:=m.ad }) rfl rfl rfl w os) q;exact k x _ C _ hx a2
theorem HD{f:Sp}{t:TA}(q:EA s h t fun xs g=>(∀x∈xs,plain x)/\Cn f xs [] (Res K g φ)):EV s h (aW f t) φ:=by
 intro B T σ vs H Q a k;refine q B T σ vs H _ a fun xs l g m e i a1=>?_;obtain⟨j,c⟩:=e;rw[dA];exact Ec j c i a1 k
end
def EG(s:List Sl)(h:SH)(x:Sl)(g:TG)(Ψ:List Sl->SH->Prop):Prop:=∀B T σ vs v H Q,A B s h (x::T) σ (v::vs) H->(∀s' σ' h' H',Ψ s' h'->A B s' h' T σ' vs H'->Q σ' H')->g v σ H Q
def KY(s:List Sl)(h:SH)(xs:List Sl)(g:yV)(Ψ:List Sl->SH->Prop):Prop:=∀B T σ vs us H Q,A B s h (xs++T) σ (us++vs) H->us.length=xs.length->(∀s' σ' h' H',Ψ s' h'->A B s' h' T σ' vs H'->Q σ' H')->g us σ H Q
section
variable{K:Za}{s:List Sl}{h:SH}{Ψ:List Sl->SH->Prop}
theorem cH{x:Sl}{i:Nat}(q:Ψ (s.set i x) h):EG s h x (d_ i) Ψ:=by
 intro B T σ vs v H Q a k;obtain⟨m,e,R⟩:=a;refine k _ _ h H q ⟨m,e,R.drop.fr,R.drop.wf,by rw[jv,jv];exact R.len,fun j y f=>?_,R.drop.tm⟩;rw[List.getElem?_set]at f;by_cases z:i=j
 ·subst z;rw[if_pos rfl]at f;by_cases l:i<s.length
  ·rw[if_pos l]at f;cases f;refine .inr ⟨v,?_,R.top⟩;rw[List.getElem?_set,if_pos rfl,if_pos (by rw[<-R.len];exact l)]
  ·rw[if_neg l]at f;cases f
 ·rw[if_neg z]at f;refine(R.sl j y f).imp id fun⟨w,e,o⟩=>⟨w,?_,o⟩;rw[List.getElem?_set,if_neg z];exact e
theorem sL(q:Ψ s h):KY s h [] io Ψ:=by
 intro B T σ g e H Q a f k;cases e with
 |nil=>exact⟨rfl,k s σ h H q a⟩
 |cons _ _=>cases f
theorem eP{x:Sl}{xs:List Sl}{g:TG}{gs:yV}(q:EG s h x g fun f i=>KY f i xs gs Ψ):KY s h (x::xs) (bt g gs) Ψ:=by
 intro B T σ l e H Q a j k;cases e with
 |nil=>cases j
 |cons u e=>exact⟨u,e,rfl,q B _ σ _ u H _ a fun f σ' i m n o=>n B T σ' l e m Q o (by simpa using j) k⟩
theorem CW{x:Sl}{xs:List Sl}{n:Nat}{gs:yV}(g:Gz K h x false xs)(i:xs.length=n)(q:KY s h xs gs Ψ):EG s h x (iT K n gs) Ψ:=by
 intro B T σ vs v H Q a k;obtain⟨m,rfl,R⟩:=a;obtain⟨b,f,rfl,e,_,j⟩:=g.view R.wf R.top;exact⟨b,f,rfl,j rfl,by rw[Paired.length e];exact i,q B T σ vs f _ Q ⟨m,rfl,R.fr,R.wf,R.len,R.sl,Paired.app e R.drop.tm⟩ (Paired.length e) k⟩
theorem BA{a:List DT}{n:Nat}{gs:yV}(e:a.length=n)(q:KY s h (a.map (eS K)) gs Ψ):EG s h (eS K (.t a)) (iT K n gs) Ψ:=CW .t (by rw[aq];exact e) q
end
structure Kd(G:Hp)(J:It)(n:Nat)(el:Nat->AV):Prop where
 go:∀i G2 H2,i<n->ae G G2->ae G2 H2->J.go i H2
 st:∀G2 H2,ae G G2->ae G2 H2->J.stop n H2
 yl:∀i (m:Mp) (h:SH) x H3,i<n->ae G m.G->ae m.G m.H->J.yld i m.H x H3->∃m3:Mp,m3.H=H3/\Mv m h m3 h/\(el i).p m3.G x
theorem Kd.mono{G G':Hp}{J:It}{n:Nat}{f:Nat->AV}(S:ae G G')(h:Kd G J n f):Kd G' J n f:=⟨fun i a e hi s=>h.go i a e hi (S.trans s),fun a e s=>h.st a e (S.trans s),fun i m g x j hi s=>h.yl i m g x j hi (S.trans s)⟩
def ES(J:It)(n:Nat)(el:Nat->AV):AV:=⟨fun G _=>Kd G J n el,fun S h=>h.mono S⟩
def EI(s:List Sl)(h:SH)(wi:L2.TI)(Θ:Nat->(Nat->AV)->SH->Prop):Prop:=∀B T σ vs H R,A B s h T σ vs H->(∀n el J h1 m,Θ n el h1->Rw B s h1 T σ vs m->Kd m.G J n el->R J m.H)->wi σ H R
def Bz(as:List AV)(i:Nat):AV:=as.getD i nv
section
variable{K:Za}{s:List Sl}{h:SH}{φ:Sl->SH->Prop}{Θ:Nat->(Nat->AV)->SH->Prop}{te:TE}
inductive Et(K:Za):AV->Bool->List AV->Prop
 |s {ds:List DT}:Et K (dv K (.s ds)) true (ds.map (dv K))
 |t {ds:List DT}:Et K (dv K (.t ds)) false (ds.map (dv K))
 |v {as:List AV}:Et K (lv as) true as
 |w {as:List AV}:Et K (tv as) false as
theorem IB{G:Hp}{a:List DT}{e:List V}(q:DRs K G a e):Paired (fun v (x:AV)=>x.p G v) e (a.map (dv K)):=by
 induction a generalizing e with
 |nil=>unfold DRs at q;subst q;exact .nil
 |cons d a f=>unfold DRs at q;obtain⟨v,e,rfl,g,i⟩:=q;exact .cons g (f i)
theorem Et.view{a:AV}{b:Bool}{l:List AV}(q:Et K a b l){G:Hp}{v:V}(o:a.p G v):∃p f,v=.ref p/\Paired (fun v (x:AV)=>x.p G v) f l/\(b=true->G p=some (.lst f))/\(b=false->cq K G p f):=by
 cases q with
 |@s k =>
  have j:DR K G (.s k) v:=o;unfold DR at j;obtain⟨a,f,e,g,i⟩:=j;exact⟨a,f,e,IB i,fun _=>g,nofun⟩
 |@t k =>
  have j:DR K G (.t k) v:=o;unfold DR at j;obtain⟨a,f,e,g,i⟩:=j;exact⟨a,f,e,IB i,nofun,fun _=>g⟩
 |v=>obtain⟨a,f,e,g,i⟩:=o;exact⟨a,f,e,i,fun _=>g,nofun⟩
 |w=>obtain⟨a,f,e,g,i⟩:=o;exact⟨a,f,e,i,nofun,fun _=>cq.of g⟩
theorem Iy{G:Hp}{a:List V}{f:List AV}(r:Paired (fun v (x:AV)=>x.p G v) a f){i:Nat}{x:V}(e:a[i]?=some x):(Bz f i).p G x:=by
 obtain⟨d,g,j⟩:=Paired.getL r e;unfold Bz;rw[sP,g];exact j
theorem ym(q:EV s h te fun x r=>∃a n,x=.im a/\Et K a true n/\Θ n.length (Bz n) r):EI s h (dS K te) Θ:=by
 intro B T σ z H R a k;refine q B T σ z H _ a fun x v r J t a1=>?_;obtain⟨a,n,e,f,C⟩:=t;subst e;obtain⟨m,rfl,u⟩:=a1;obtain⟨b,o,rfl,w,D,_⟩:=f.view u.top;have p:=D rfl;have g:=Paired.length w;refine⟨b,rfl,⟨_,aA.of (u.wf.s _ _ p)⟩,k _ _ _ r m C u.drop ⟨fun i E G hi j l=>?_,fun E G j l=>?_,fun i I L x M hi j l y=>?_⟩⟩
 ·have:i<o.length:=by rw[g];exact hi
  exact⟨o,o[i],aA.of (l _ _ (j _ _ p)),by simp[this]⟩
 ·exact⟨o,aA.of (l _ _ (j _ _ p)),by rw[g];exact aG _⟩
 ·obtain⟨rfl,y⟩:=y;exact⟨I,rfl,.refl l,(Bz n i).mono j (Iy w (y o (aA.of (l _ _ (j _ _ p)))))⟩
theorem JH(q:EV s h te fun x r=>∃a n,x=.im a/\Et K a false n/\Θ n.length (Bz n) r):EI s h (Jx K te) Θ:=by
 intro B T σ z H R a k;refine q B T σ z H _ a fun x v r J t a1=>?_;obtain⟨a,n,e,f,C⟩:=t;subst e;obtain⟨m,rfl,u⟩:=a1;obtain⟨b,o,rfl,w,_,D⟩:=f.view u.top;have p:=D rfl;have g:=Paired.length w;refine⟨b,rfl,⟨_,cq.same u.wf.s p⟩,k _ _ _ r m C u.drop ⟨fun i E G hi j l=>?_,fun E G j l=>?_,fun i I L x M hi j l y=>?_⟩⟩
 ·have:i<o.length:=by rw[g];exact hi
  exact⟨o,o[i],cq.same (j.trans l) p,by simp[this]⟩
 ·exact⟨o,cq.same (j.trans l) p,by rw[g];exact aG _⟩
 ·obtain⟨rfl,y⟩:=y;exact⟨I,rfl,.refl l,(Bz n i).mono j (Iy w (y o (cq.same (j.trans l) p)))⟩
end
def cS(k:Nat)(fi:List Nat)(s:List Sl):List Sl:=lf k .no++fi.map fun i=>s.getD i .no
theorem lend{B:Bs}{s:List Sl}{h:SH}{T:List Sl}{σ:L2.St}{p:List V}{m:Mp}(R:Rw B s h T σ p m)(k:Nat)(g:List Nat):Rw ⟨m.G,m.H,m.P,fun _=>False,fun a=>∃n c,(n,c)∈h/\m.ad n=a,[]⟩ (cS k g s) h [] (eB k g σ) [] m:=by
 refine⟨⟨.refl _,fun _ _ e _ _=>e,fun _ e=>e,fun _ e=>.inl e,fun _ _ _ _ _ e=>e,fun _=>Iff.rfl,fun n c e=>.inr (.inr ⟨n,c,e,rfl⟩),fun _ _ e=>nomatch e⟩,R.wf,by unfold cS eB;simp,fun i x e=>?_,.nil⟩;unfold cS at e;by_cases z:i<k
 ·rw[k_ (by simpa using z)]at e;exact .inl (List.eq_of_mem_replicate (ca e))
 ·rw[pL (by simpa using z),wW,bD]at e;cases q:g[i-k]? with
  |none=>rw[q]at e;cases e
  |some j =>
   rw[q]at e;have f:s.getD j .no=x:=d4 e;rw[sP]at f;cases l:s[j]? with
   |none=>rw[l]at f;exact .inl f.symm
   |some y =>
    rw[l]at f;have r:y=x:=f;subst r;refine(R.sl j y l).imp id fun⟨v,e,o⟩=>⟨v,?_,o⟩;unfold eB;rw[pL (by simpa using z),wW,bD,q];show some ((σ[j]?).join)=_;rw[e];rfl
theorem IZ{n:Nat}(h:n<=1000000):n<ao:=wQ h (by decide)
theorem Mv.put{m m':Mp}{h:SH}(M:Mv m h m' h){l:Addr}{o:HO}(g:m.H l=none)(i:m'.G l=none)(k:∀a,m.P a->m.H a≠none):Mv m h { m' with H:=upd m'.H l o } h :=
 ⟨M.gg,fun b u e=>by show upd m'.H l o b=some u;rw[am (fun z=>by rw[z,i]at e;cases e)];exact M.s _ _ e,fun a u e n=>by show upd m'.H l o a=some u;rw[am (ah e g)];exact M.hh a u e n,fun a e=>by
  show upd m'.H l o a≠none;rw[am (fun z=>e (by rw[z];exact g))];exact M.al a e,M.fr,fun p c q f j e=>by
  show fA (upd m'.H l o) p c;exact(M.pe p c q f j e).upd (fun z=>k p f (by rw[z];exact g)) (fun z=>by have:=M.gg _ _ j;rw[z,i]at this;cases this),M.pp,M.ad,M.nm⟩
section
variable{K:Za}{s:List Sl}{h:SH}{φ:Sl->SH->Prop}{ψ:Bool->SH->Prop}{te:TE}
theorem HC{k:Nat}{fi:List Nat}{wi:L2.TI}{g:TG}{tc:TT}(q:EI s h wi fun n el t=>n<=1000000/\∃I:Nat->List AV->Prop,I 0 [] /\
  (∀i f,i<n->I i f->EG (cS k fi s) t (.im (el i)) g fun sc h2=>ET sc h2 tc fun b h3=>if b=true then EV sc h3 te fun y _=>∃a,y=.im a/\I (i+1) (f++[a])else I (i+1) f)/\(∀f,I n f->JY K t φ (f.map .im))):EV s h (dR k fi wi g tc te) φ:=by
 intro B T σ vs H Q a kk;refine q B T σ vs H _ a fun n el J t m L R S l hl=>?_;obtain⟨hz,I,i0,st,aj⟩:=L;obtain⟨f1,f2,f3,f4⟩:=R.fresh hl;refine o8 (Q:=fun D=>Q (.ref l) D) n (fun i ws D=>∃C f,C.H=D/\I i f/\f.length<=i/\Mv m t C t/\C.G l=none/\D l=some (.lst ws)/\rO C t ws (f.map .im))
  ⟨_,[],rfl,i0,aG _,Mv.newO (o:=.lst []) R.wf.s hl,f2,aa,.nil⟩ (fun i ws D _ zq=>by obtain⟨_,_,_,_,_,_,_,e,_⟩:=zq;exact e) (fun i ws D hi ⟨C,_,e,_,_,M,_⟩=>by rw[<-e];exact S.go i C.G C.H hi M.gg M.s) (fun ws D ⟨C,f,e0,hI,_,M,g,e,hd⟩=>?_) ?_
 ·subst e0;refine⟨S.st C.G C.H M.gg M.s,?_⟩;obtain⟨x,h2,hx,a2⟩:=R.adopt M hl g e hd (aj f hI);exact kk x _ h2 _ hx a2
 ·rintro i ws D x H3 hi ⟨C,f,rfl,hI,as,M,gl,e,hd⟩ y;obtain⟨w,rfl,O,hx⟩:=S.yl i C t x H3 hi M.gg M.s y;have U:=M.trans O;have R3:=R.mv U;have nP:¬C.P l:=by rw[M.pp];exact f3
  have Y:¬w.P l:=by rw[O.pp];exact nP
  have e3:w.H l=some (.lst ws):=O.hh l _ e nP;have ak:w.G l=none:=by
   cases q:w.G l with
   |none=>rfl
   |some u =>
    rcases O.fr l (by rw[q];exact nofun)with z|z
    ·exact absurd gl z
    ·rw[e]at z;cases z
  have al:rO w t ws (f.map .im):=Paired.mapP hd fun v x r=>Ok.mv O r;refine st i f hi hI _ [] _ [] x _ _ ((lend R3 k fi).push hx) fun sc σ2 h2 H4 h4 a4=>h4 _ [] σ2 [] H4 _ a4 fun b h3 H5 h5 a5=>?_;have step:∀{j:Mp}{h6:SH},Fr ⟨w.G,w.H,w.P,fun _=>False,fun a=>∃n c,(n,c)∈t/\w.ad n=a,[]⟩ j h6->Wf j h6->Mv m t { j with ad:=w.ad } t/\j.G l=none/\j.H l=some (.lst ws)/\rO { j with ad:=w.ad } t ws (f.map .im):=by
   intro j h6 F W;have E:Mv w t { j with ad:=w.ad } t:=Fr.mv0 (h0:=[]) F W (fun _ z=>z);refine⟨U.trans E,?_,E.hh l _ e3 Y,Paired.mapP al fun v x r=>Ok.mv E r⟩;cases q:j.G l with
   |none=>rfl
   |some u =>
    rcases E.fr l (by show j.G l≠none;rw[q];exact nofun)with z|z
    ·exact absurd ak z
    ·rw[e3]at z;cases z
  have an:∀a,m.P a->m.H a≠none:=fun a z=>(R.wf.p a z).2;cases b with
  |true =>
   refine bI ?_;refine(if_pos rfl).mp h5 _ [] σ2 [] H5 _ a5 fun y v h7 H6 L a6=>?_;obtain⟨ea,ey,ap⟩:=L;subst ey;obtain⟨j,rfl,N⟩:=a6;obtain⟨E,g6,e6,d6⟩:=step N.fr N.wf;have l6:=Paired.length d6;rw[aq]at l6;refine⟨e6,by rw[l6];exact IZ (by omega),uf hi ⟨_,f++[ea],rfl,ap,by simp;omega,E.put (o:=.lst (ws++[v])) hl g6 an,g6,aa,?_⟩⟩;rw[aK];exact Paired.app (Paired.mapP d6 fun v x r=>by
    cases x with
    |im a=>exact r
    |no=>exact eU
    |lc n=>exact r
    |pn =>
     obtain⟨p,c,o,z1,z2,z3,z4⟩:=r;refine⟨p,c,o,z1,z2,z3,?_⟩;have ab:j.P p:=z2;have ai:j.G c=some o:=z3;exact(show fA j.H p c from z4).upd (fun z=>by rw[z]at ab;exact Y ((N.fr.pp l).mpr ab)) (fun z=>by rw[z,g6]at ai;cases ai)) (.cons N.top .nil)
  |false =>
   refine bC ?_;obtain⟨j,rfl,N⟩:=a5;obtain⟨E,g6,e6,d6⟩:=step N.fr N.wf;exact uf hi ⟨{ j with ad:=w.ad },f,rfl,(if_neg nofun).mp h5,by omega,E,g6,e6,d6⟩
end
structure AE where
 nx:List Sl->SH->Prop
 rt:Sl->SH->Prop
 bk:List Sl->SH->Prop:=fun _ _=>False
 ct:List Sl->SH->Prop:=fun _ _=>False
structure Le(De:iw)(D:AE)(B:Bs)(T:List AV)(vs:List V):Prop where
 nx:∀s h σ H,D.nx s h->A B s h (T.map .im) σ vs H->De.nx σ H
 rt:∀x h v H,D.rt x h->A B [] h [x] [] [v] H->De.rt v H
 bk:∀s h σ H,D.bk s h->A B s h (T.map .im) σ vs H->De.bk σ H
 ct:∀s h σ H,D.ct s h->A B s h (T.map .im) σ vs H->De.ct σ H
def SS(s:List Sl)(h:SH)(t:TS)(D:AE):Prop:=∀B (T:List AV) σ vs H De,(∀a,¬B.R a)->A B s h (T.map .im) σ vs H->Le De D B T vs->t De σ H
def Wk(s s':List Sl):Prop:=s'.length=s.length/\∀(i:Nat) x,s'[i]?=some x->x=.no∨s[i]?=some x
theorem Wk.refl(s:List Sl):Wk s s:=⟨rfl,fun _ _ h=>.inr h⟩
theorem pQ:Wk [] []:=.refl _
theorem Wk.cons{x:Sl}{s a:List Sl}(h:Wk s a):Wk (x::s) (x::a):=⟨by simp[h.1],fun i y e=>by
 cases i with
 |zero=>exact .inr e
 |succ i=>exact h.2 i y e⟩
theorem Wk.no{x:Sl}{s a:List Sl}(h:Wk s a):Wk (x::s) (.no::a):=⟨by simp[h.1],fun i y e=>by
 cases i with
 |zero=>exact .inl (d4 e).symm
 |succ i=>exact h.2 i y e⟩
def uv(h:SH):Sl->Bool
 |.lc n=>(h.map (·.1)).contains n
 |_=>true
def ceN(h:SH):Ce->Bool
 |.lst xs=>xs.all (uv h)
 |.dk kvs=>kvs.all fun p=>uv h p.2
 |.dt kvs=>kvs.all fun p=>uv h p.2
 |.ins _ fs=>fs.all fun p=>uv h p.2
 |.fk _ _ kvs=>kvs.all fun p=>uv h p.2
structure Fg(s:List Sl)(h h':SH):Prop where
 sub:h'.Sublist h
 sl:s.all (uv h')=true
 ce:(h'.all fun p=>ceN h' p.2)=true
 lo:∀n c,(n,c)∈h->1000<=n->(n,c)∈h'
theorem yf{m:Mp}{h f:SH}{x:Sl}{v:V}(hx:uv f x=true)(o:Ok m h x v):Ok m f x v:=by
 cases x with
 |no=>exact eU
 |im a=>exact o
 |pn=>exact o
 |lc n =>
  refine⟨?_,o.2⟩;have:n∈f.map (·.1):=List.contains_iff_mem.mp hx;obtain⟨⟨k,c⟩,e,g⟩:=aR.mp this;have:k=n:=g;subst this;exact⟨c,e⟩
theorem lD{m:Mp}{h a:SH}:∀{e:List V}{xs:List Sl},xs.all (uv a)=true->rO m h e xs->rO m a e xs
 |_,_,_,.nil=>.nil
 |_,_,hx,.cons o r=>by
  rw[sW,iF]at hx;exact .cons (yf hx.1 o) (lD hx.2 r)
theorem JK{m:Mp}{h g:SH}{a:Addr}{c:Ce}(hx:ceN g c=true)(o:yT m h a c):yT m g a c:=by
 cases c with
 |lst xs=>obtain⟨f,e,r⟩:=o;exact⟨f,e,lD hx r⟩
 |dk xs=>obtain⟨f,e,r⟩:=o;exact⟨f,e,lD (by rw[mP];exact hx) r⟩
 |dt xs=>obtain⟨f,e,r⟩:=o;exact⟨f,e,lD (by rw[mP];exact hx) r⟩
 |ins C fs=>obtain⟨k,f,e,r⟩:=o;exact⟨k,f,e,lD (by rw[mP];exact hx) r⟩
 |fk s l xs =>
  refine⟨o.1,?_⟩;have i:∀{l:List (eE×V)}{xs:List (eE×Sl)},Paired (fun(p:eE×V) (q:eE×Sl)=>p.1=q.1/\Ok m h q.2 p.2) l xs->(xs.all fun p=>uv g p.2)=true->Paired (fun(p:eE×V) (q:eE×Sl)=>p.1=q.1/\Ok m g q.2 p.2) l xs:=by
   intro l xs q
   induction q with
   |nil=>exact fun _=>.nil
   |cons j _ n =>
    intro z;rw[sW,iF]at z;exact .cons ⟨j.1,yf z.1 j.2⟩ (n z.2)
  exact i o.2 hx
theorem A.wk{B:Bs}{s f:List Sl}{h:SH}{T:List Sl}{σ:L2.St}{g:List V}{H:Hp}(a:A B s h T σ g H)(w:Wk s f):A B f h T σ g H:=by
 obtain⟨m,e,R⟩:=a;refine⟨m,e,R.fr,R.wf,by rw[w.1];exact R.len,fun i x h=>?_,R.tm⟩;rcases w.2 i x h with e|e
 ·exact .inl e
 ·exact R.sl i x e
theorem HY{m:Mp}{h e:SH}:∀{T:List AV}{a:List V},rO m h a (T.map .im)->rO m e a (T.map .im)
 |[],_,q=>by cases q;exact .nil
 |_::_,_,q=>by cases q with|cons f g=>exact .cons f (HY g)
theorem A.fg{B:Bs}{s:List Sl}{h j:SH}{T:List AV}{σ:L2.St}{vs:List V}{H:Hp}(a:A B s h (T.map .im) σ vs H)(f:Fg s h j):A B s j (T.map .im) σ vs H:=by
 obtain⟨m,e,R⟩:=a;have sub:∀n c,(n,c)∈j->(n,c)∈h:=fun n c e=>f.sub.subset e;refine⟨m,e,⟨R.fr.gg,R.fr.hh,R.fr.al,R.fr.fr,R.fr.pe,R.fr.pp,fun n c e=>R.fr.ow n c (sub n c e),fun n a e=>?_⟩,⟨R.wf.s,R.wf.p,fun n c e=>?_,fun n c q r e t=>R.wf.i n c q r (sub n c e) (sub q r t),R.wf.u.sublist (f.sub.map _)⟩,R.len,fun i x hx=>(R.sl i x hx).imp id fun⟨v,e,o⟩=>⟨v,e,yf (List.all_eq_true.mp f.sl x (ca hx)) o⟩,HY R.tm⟩
 ·obtain⟨g,k,c,l⟩:=R.fr.nd n a e;exact⟨g,k,c,f.lo n c l g⟩
 ·obtain⟨g,k,l⟩:=R.wf.c n c (sub n c e);exact⟨g,k,JK (List.all_eq_true.mp f.ce (n,c) e) l⟩
theorem A.only{B:Bs}{s:List Sl}{h:SH}{T:List Sl}{σ:L2.St}{f:List V}{H:Hp}{x:Sl}{v:V}(a:A B s h (x::T) σ (v::f) H):A B [] h [x] [] [v] H:=by
 obtain⟨m,e,R⟩:=a;exact⟨m,e,R.fr,R.wf,rfl,fun i x h=>by simp at h,.cons R.top .nil⟩
def KN(s:List Sl)(h:SH)(I:List Sl->SH->Prop):Prop:=∃s' h',Wk s s'/\Fg s' h h'/\I s' h'
theorem A.wf2{B:Bs}{s:List Sl}{h:SH}{T:List AV}{σ:L2.St}{vs:List V}{H:Hp}{I:List Sl->SH->Prop}(a:A B s h (T.map .im) σ vs H)(w:KN s h I):∃e f,I e f/\A B e f (T.map .im) σ vs H:=by
 obtain⟨e,f,g,j,i⟩:=w;exact⟨e,f,i,(a.wk g).fg j⟩
section
variable{K:Za}{s:List Sl}{h:SH}{D:AE}{te:TE}{t u:TS}
theorem cJ(q:SS s h t { D with nx:=fun e f=>SS e f u D }):SS s h (au t u) D:=fun B T σ g H i r a l=>q B T σ g H _ r a ⟨fun e f σ' j k m=>k B T σ' g j i r m l,l.rt,l.bk,l.ct⟩
theorem iN(q:D.nx s h):SS s h br D:=fun B T σ e H f r a l=>l.nx s h σ H q a
theorem ka(q:EV s h te D.rt):SS s h (bf te) D:=fun B T σ e H j r a l=>q B _ σ e H _ a fun x v f g i a1=>l.rt x f v g i a1.only
theorem ln{g:TG}(q:EV s h te fun x e=>EG s e x g D.nx):SS s h (aN te g) D:=fun B T σ f H w r a l=>q B _ σ f H _ a fun x v e i j a1=>j B _ σ f v i _ a1 fun k σ' m n o p=>l.nx k m σ' n o p
theorem gQ{c:TT}(q:ET s h c fun b e=>if b=true then SS s e t D else SS s e u D):SS s h (cu c t u) D:=by
 intro B T σ f H g r a l;refine q B _ σ f H _ a fun b e i j a1=>?_;cases b with
 |true=>exact bI ((if_pos rfl).mp j B T σ f i g r a1 l)
 |false=>exact bC ((if_neg nofun).mp j B T σ f i g r a1 l)
theorem xC{wi:L2.TI}{g:TG}{tb:TS}(q:EI s h wi fun n p h1=>∃I:Nat->List Sl->SH->Prop,KN s h1 (I 0) /\
  (∀i j f,i<n->I i j f->EG j f (.im (p i)) g fun s2 h2=>SS s2 h2 tb { D with nx:=fun w z=>KN w z (I (i+1)),ct:=fun w z=>KN w z (I (i+1)),bk:=D.nx })/\∀j f,I n j f->D.nx j f):SS s h (gk wi g tb) D:=by
 intro B T σ M H De r a l;refine q B _ σ M H _ a fun n p J h1 m N R S=>?_;obtain⟨I,w0,st,O⟩:=N;obtain⟨s0,h0,i0,a0⟩:=A.wf2 (T:=ES J n p::T) (R.push (x:=.im (ES J n p)) (v:=.non) S) w0;refine⟨fun i m σ' H'=>m=n-i/\i<=n/\∃j f,I i j f/\A B j f ((ES J n p::T).map .im) σ' (.non::M) H',⟨n,by simp,cf _,s0,h0,i0,a0⟩,?_⟩;rintro i k σ' H' ⟨rfl,hi,j,f,hI,C,rfl,R2⟩;have Q:Kd C.G J n p:=R2.top;by_cases o:i<n
 ·refine .inr ⟨Q.go i C.G C.H o (.refl _) R2.wf.s,fun σ3 L=>∃w z,I (i+1) w z/\A B w z ((ES J n p::T).map .im) σ3 (.non::M) L,fun σ3 L ⟨w,z,i3,a3⟩=>⟨n-(i+1),by omega,rfl,o,w,z,i3,a3⟩,fun x L y=>?_⟩;obtain⟨m3,rfl,M3,hx⟩:=Q.yl i C f x L o (.refl _) R2.wf.s y;refine st i j f o hI B _ σ' _ x _ _ ((R2.mv M3).push hx) fun s2 σ2 h2 H2 q2 a2=>q2 B (ES J n p::T) σ2 _ H2 _ r a2 ⟨fun U Y σ4 H4 w5 E=>E.wf2 w5,l.rt,fun U Y σ4 H4 q4 E=>l.nx U Y σ4 H4 q4 E.drop,fun U Y σ4 H4 w5 E=>E.wf2 w5⟩
 ·have e:i=n:=by omega
  subst e;exact .inl ⟨Q.st C.G C.H (.refl _) R2.wf.s,l.nx j f σ' _ (O j f hI) (A.drop ⟨C,rfl,R2⟩)⟩
end
def Ko(n:Nat)(PRE:List Sl->SH->(Sl->SH->Prop)->Prop):Sp:=fun vs H Q _=>∃xs h φ m,xs.length=n/\m.H=H/\(∀n c,(n,c)∈h->1000<=n)/\Wf m h/\rO m h vs xs/\PRE xs h φ/\Fin m h Q φ
theorem cn_h{n:Nat}{a:List Sl->SH->(Sl->SH->Prop)->Prop}{xs:List Sl}{h:SH}{φ:Sl->SH->Prop}(q:a xs h φ)(e:xs.length=n:=by rfl):Cn (Ko n a) xs h φ:=fun i m Q E g W o f=>⟨xs,h,φ,m,e,rfl,g,W,o,q,f⟩
theorem Kz{n:Nat}{a:List Sl->SH->(Sl->SH->Prop)->Prop}{e:List V}{H:Hp}{Q:VK}{E:XK}(q:Ko n a e H Q E):e.length=n:=by
 obtain⟨xs,h,φ,m,f,_,_,_,hx,_⟩:=q;rw[Paired.length hx,f]
theorem body{n:Nat}{g:List Sl->SH->(Sl->SH->Prop)->Prop}{o:List V}{H:Hp}{Q:VK}{E:XK}{t:TS}{N:Zb}(q:Ko n g o H Q E)(y:∀xs h φ,g xs h φ->SS (xs++lf (N.length-xs.length) .no) h t ⟨fun _ j=>φ (.im nv) j,φ,fun _ _=>False,fun _ _=>False⟩):
  t (bJ Q) (start N o) H:=by
 obtain⟨xs,h,φ,m,_,rfl,B,W,hx,l,f⟩:=q;have u:o.length=xs.length:=Paired.length hx;refine y xs h φ l (K_ m h (h.map fun p=>(p.1,m.ad p.1))) [] (start N o) [] _ _ (fun _ z=>z) ⟨m,rfl,⟨.refl _,fun _ _ e _ _=>e,fun _ e=>e,fun _ e=>.inl e,fun _ _ _ _ _ e=>e,fun _=>Iff.rfl,fun n c e=>.inr (.inl ⟨n,c,e,rfl⟩),fun n a e=>?_⟩,W,by unfold L2.start;simp[u],fun i x e=>?_,.nil⟩ ⟨?_,?_,fun _ _ _ _ z=>z.elim,fun _ _ _ _ z=>z.elim⟩
 ·obtain⟨⟨k,c⟩,w,C⟩:=aR.mp e;cases C;exact⟨B k c w,rfl,c,w⟩
 ·by_cases z:i<xs.length
  ·rw[k_ z]at e;obtain⟨v,D,G⟩:=Paired.get (R:=fun v x=>Ok m h x v) hx e;refine .inr ⟨v,?_,G⟩;unfold L2.start;rw[k_ (by simpa[u]using z),bD,D];rfl
  ·rw[pL (by omega)]at e;exact .inl (List.eq_of_mem_replicate (ca e))
 ·rintro s j σ I q ⟨r,rfl,R⟩;exact f (.im nv) .non j r q R.fr R.wf rfl
 ·rintro x j v I q ⟨r,rfl,R⟩;exact f x v j r q R.fr R.wf R.top
theorem ifB{b:Bool}{X Y:Prop}(a:b=true->X)(e:b=false->Y):if b=true then X else Y:=by
 cases b with
 |true=>exact bI (a rfl)
 |false=>exact bC (e rfl)
section
variable{K:Za}{s:List Sl}{h:SH}{φ φ':Sl->SH->Prop}{ψ ψ':Bool->SH->Prop}{ta tb te tl:TE}{g:TG}{tc:TT}{k:Nat}{fi:List Nat}
theorem rJ{α β:Type}{xs:List α}{i:Nat}{a:α}(h:xs[i]?=some a)(p:α->Bool)(f:α->β):((xs.take (i+1)).filter p).map f=((xs.take i).filter p).map f++(if p a=true then[f a]else[]):=by
 rw[take_snoc h,sQ,aK];by_cases c:p a=true
 ·rw[if_pos c];simp[List.filter,c]
 ·rw[if_neg c];simp[List.filter,c]
def K0(K:Za)(s:List Sl)(h:SH)(φ:Sl->SH->Prop)(k:Nat)(fi:List Nat)(g:TG)(tc:TT)(te:TE)(α:Type)(xs:List α)(enc:α->AV)(p:α->Bool)(f:α->AV):Prop :=
 xs.length<=1000000/\(∀a∈xs,EG (cS k fi s) h (.im (enc a)) g fun sc h2=>ET sc h2 tc fun b h3=>b=p a/\(p a=true->EV sc h3 te fun y _=>y=.im (f a)))/\JY K h φ (((xs.filter p).map f).map .im)
theorem BD{α:Type}{xs:List α}{l:α->AV}{p:α->Bool}{f:α->AV}(q:K0 K s h φ k fi g tc te α xs l p f):(xs.map l).length<=1000000/\∃I:Nat->List AV->Prop,I 0 [] /\
  (∀i j,i<(xs.map l).length->I i j->EG (cS k fi s) h (.im (Bz (xs.map l) i)) g fun n o=>ET n o tc fun b r=>if b=true then EV n r te fun y _=>∃a,y=.im a/\I (i+1) (j++[a])else I (i+1) j)/\(∀j,I (xs.map l).length j->JY K h φ (j.map .im)):=by
 obtain⟨z,st,t⟩:=q;refine⟨by rw[aq];exact z,fun i j=>j=((xs.take i).filter p).map f,by simp,fun i j hi e=>?_,fun j e=>?_⟩
 ·rw[aq]at hi;have u:xs[i]?=some xs[i]:=by simp[hi]
  have C:Bz (xs.map l) i=l xs[i]:=by unfold Bz;rw[sP,bD,u];rfl
  rw[C];have:=st xs[i] (List.getElem_mem hi);intro B T σ m v H Q a k;refine this B T σ m v H Q a fun n σ' o D E G=>k n σ' o D (fun B T σ m H Q a k=>E B T σ m H Q a fun b r w ⟨J,L⟩ a1=>k b r w ?_ a1) G;subst J;by_cases c:p xs[i]=true
  ·rw[if_pos c];intro B T σ m H Q a k;refine L c B T σ m H Q a fun y v M w N a1=>k y v M w ⟨f xs[i],N,?_⟩ a1;show j++[f xs[i]]=((xs.take (i+1)).filter p).map f;rw[e,rJ u,if_pos c]
  ·rw[if_neg c];show j=((xs.take (i+1)).filter p).map f;rw[e,rJ u,if_neg c,dA]
 ·have x:j=((xs.take (xs.map l).length).filter p).map f:=e;rw[aq,cO]at x;rw[x];exact t
theorem Iw{α:Type}{xs:List α}{f:α->DT}:Et K (dv K (.s (xs.map f))) true (xs.map fun a=>dv K (f a)):=by
 have:=Et.s (K:=K) (ds:=xs.map f);rw[eZ]at this;exact this
theorem KB{α:Type}{xs:List α}{f:α->DT}:Et K (dv K (.t (xs.map f))) false (xs.map fun a=>dv K (f a)):=by
 have:=Et.t (K:=K) (ds:=xs.map f);rw[eZ]at this;exact this
end
def rS(K:Za):TS :=
 bf (du (fU K) (aF (zh K V0 "own_doors")))
def sr:List Str:=["self"]
def zc(K:Za)(sp_law_same:Sp):TS :=
 au (cu (tB (EL V1)) (bf (EL V0)) (br))
 (au (cu (tB (du (r_ K) (ba V1 (tC (.ty "bool"))))) (bf (iK (du (r_ K) (ba V0 (tC (.ty "bool")))) (aI (se K) V0 V1))) (br))
 (au (cu (tB (du (r_ K) (ba V1 (tC (.ty "str"))))) (bf (iK (du (r_ K) (ba V0 (tC (.ty "str")))) (aI (se K) V0 V1))) (br))
 (au (cu (tB (du (r_ K) (ba V1 (tC (.ty "int"))))) (bf (iK (du (r_ K) (ba V0 (tC (.ty "int")))) (iK (EJ (du (r_ K) (ba V0 (tC (.ty "bool"))))) (aI (se K) V0 V1)))) (br))
 (au (cu (xB (tB (du (r_ K) (ba V1 (tC (.ty "tuple"))))) (xm (tB (du (r_ K) (ba V0 (tC (.ty "tuple"))))))) (bf (tC (.bl false))) (br))
 (au (cu (xB (tB (du (r_ K) (ba V1 (tC (.ty "list"))))) (xm (tB (du (r_ K) (ba V0 (tC (.ty "list"))))))) (bf (tC (.bl false))) (br))
 (au (cu (bc (aI Hd (du (cD K) (aF V0)) (du (cD K) (aF V1)))) (bf (tC (.bl false))) (br))
 (bf (du (DE K) (ay (dR 2 [] (CP K (ba V0 V1)) (iT K 2 (bt U0 (bt U1 (io)))) (jx) (aW sp_law_same (ba V0 V1))) bS)))))))))
def u_(K:Za):TS :=
 au (aN V0 (iT K 4 (bt U1 (bt U2 (bt U3 (bt U4 (io)))))))
 (au (aN (tC (.str "")) U5)
 (au (gk (dS K (eJ (fu (d7 (ba (tC (.str "asks")) V1)) (d7 (ba (tC (.str "says")) V2)) (d7 (ba (tC (.str "rooms")) V3))))) (iT K 2 (bt U6 (bt U7 (io)))) (au (aN (aI fL V5 V6) U5)
 (au (gk (dS K V7) U8 (aN (aI fL (aI fL V5 (tC (.str " "))) V8) U5))
 (aN (aI fL V5 (tC (.str "\n"))) U5))))
 (au (gk (dS K V4) (iT K 3 (bt U9 (bt U10 (bt U11 (io))))) (au (aN (aI fL V5 V9) U5)
 (au (gk (Jx K Kc) U12 (aN (aI fL (aI fL V5 (tC (.str " "))) La) U5))
 (aN (aI fL (aI fL (aI fL V5 (tC (.str " "))) Lb) (tC (.str "\n"))) U5))))
 (bf V5))))
def vq:List Str:=["told","asks","says","rooms","doors","found","head","some","name","room","sign","other","word"]
def Ah:List Str:=["found","due"]
theorem JL{G:Hp}{bs:List Bool}:∀{a:List V},Paired (fun v (x:AV)=>x.p G v) a (bs.map bv)->a=bs.map V.bl:=by
 induction bs with
 |nil=>intro a r;cases r;rfl
 |cons b bs f =>
  intro a r;cases r with
  |cons g h =>
   have e:_=V.bl b:=g;rw[e,f h];rfl
section
variable{K:Za}{s:List Sl}{h:SH}{φ:Sl->SH->Prop}{ta tb te:TE}
theorem gJ(q:EV s h ta fun x f=>EV s f tb fun y e=>∃i j:Str,x=eS K (bx i)/\y=eS K (bx j)/\i.length+j.length<=ao/\φ (eS K (bx (i++j))) e):EV s h (aI fL ta tb) φ:=by
 intro B T σ g H Q a k;refine q B T σ g H _ a fun x u f l m a1=>m B _ σ _ l _ a1 fun y v e w n a2=>?_;obtain⟨i,j,rfl,rfl,o,c⟩:=n;obtain⟨p,a3⟩:=Cd a2;obtain⟨r,t⟩:=Cd a3;exact⟨i,j,r,p,o,k _ _ e _ c (t.pushI (tX (K:=K)))⟩
def tyD:DT->String
 |.k (.inl _)=>"int"
 |.k (.inr _)=>"str"
 |.t _=>"tuple"
 |.s _=>"list"
theorem dP{c:String}(q:EV s h te fun x f=>∃d b,x=eS K d/\yW K (.type (tyD d)) (.type c)=some b/\φ (.im (bv b)) f):EV s h (du (r_ K) (ay te (aF (tC (.ty c))))) φ:=by
 intro B T σ p H Q a k;refine q B T σ p H _ a fun x u f w j a1=>?_;obtain⟨d,b,e,r,v⟩:=j;subst e;obtain⟨m,rfl,R⟩:=a1;have o:DR K m.G d u:=R.top;refine⟨u,c,.type (tyD d),b,rfl,?_,r,k _ _ f _ v (R.drop.push rfl)⟩;cases d with
 |k a =>
  unfold DR at o;subst o;cases a with
  |inl i=>exact .inl (nD.int i)
  |inr i=>exact .inl (nD.str i)
 |t l=>unfold DR at o;obtain⟨a,n,rfl,g,_⟩:=o;exact .inr (.inl ⟨a,n,rfl,rfl,cq.same R.wf.s g⟩)
 |s l=>unfold DR at o;obtain⟨a,n,rfl,g,_⟩:=o;exact .inr (.inr ⟨a,n,rfl,rfl,aA.of (R.wf.s _ _ g)⟩)
theorem JE(q:EV s h te fun x f=>∃bs:List Bool,x=.im (lv (bs.map bv))/\φ (.im (bv (bs.all id))) f):EV s h (du (DE K) (ay te bS)) φ:=by
 intro B T σ j H Q a k;refine q B T σ j H _ a fun x u f l i a1=>?_;obtain⟨bs,e,c⟩:=i;subst e;obtain⟨m,rfl,R⟩:=a1;obtain⟨p,n,rfl,g,r⟩:=(show(lv (bs.map bv)).p m.G u from R.top);have:=JL r;subst this;exact⟨p,bs,rfl,aA.of (R.wf.s _ _ g),k _ _ f _ c (R.drop.push rfl)⟩
def vX(K:Za)(x:DT×DT):AV:=tv [dv K x.1,dv K x.2]
theorem JG{Θ:Nat->(Nat->AV)->SH->Prop}(q:EV s h ta fun x h1=>EV s h1 tb fun y M=>∃g n:List DT,((x=eS K (.s g)/\y=eS K (.s n))∨(x=eS K (.t g)/\y=eS K (.t n)))/\g.length=n.length/\Θ ((g.zip n).map (vX K)).length (Bz ((g.zip n).map (vX K))) M):EI s h (CP K (ay ta (ay tb bS))) Θ:=by
 intro B T σ vs H R a k;refine q B T σ vs H _ a fun x u h1 H1 w a1=>w B _ σ _ H1 _ a1 fun y v M H2 ab a2=>?_;obtain⟨g,n,ai,hl,c⟩:=ab;obtain⟨m,rfl,R2⟩:=a2;have N:=R2.drop.drop;have O:((g.zip n).map (vX K)).length=g.length:=by rw[aq,List.length_zip,<-hl,Nat.min_self]
 have U:∀{i:Nat}{d e:DT},g[i]?=some d->n[i]?=some e->Bz ((g.zip n).map (vX K)) i=vX K (d,e):=fun{i d e} h1 M=>by
  unfold Bz;rw[sP,bD,(List.getElem?_zip_eq_some (z:=(d,e))).mpr ⟨h1,M⟩];rfl
 have yl:∀{j l:List V},DRs K m.G g j->DRs K m.G n l->∀(i:Nat) (r:Mp) (E:SH) (p:Addr) (a b:V),i<g.length->ae m.G r.G->ae r.G r.H->r.H p=none->j[i]?=some a->l[i]?=some b->∃m3:Mp,m3.H=upd r.H p (.tup [a,b])/\Mv r E m3 E/\(Bz ((g.zip n).map (vX K)) i).p m3.G (.ref p):=by
  intro j l w I i r E p a b hi f s2 Q Y hb;obtain⟨d,hd,J⟩:=w.getL Y;obtain⟨e,he,L⟩:=I.getL hb;rw[U hd he];refine⟨_,rfl,Mv.new (o:=.tup [a,b]) s2 Q,p,[a,b],rfl,aa,?_⟩;have S:=f.trans (ae.new (o:=.tup [a,b]) (s2.free Q));exact .cons (DR.same S J) (.cons (DR.same S L) .nil)
 rcases ai with⟨rfl,rfl⟩|⟨rfl,rfl⟩
 ·have J:DR K m.G (.s g) u:=R2.drop.top;have L:DR K m.G (.s n) v:=R2.top;unfold DR at J L;obtain⟨b1,j,rfl,C,w⟩:=J;obtain⟨b2,l,rfl,D,I⟩:=L;have l1:=w.len;have l2:=I.len;refine⟨b1,b2,rfl,.inl ⟨⟨j,aA.of (N.wf.s _ _ C)⟩,⟨l,aA.of (N.wf.s _ _ D)⟩,k _ _ _ M m c N ⟨fun i G2 H2 hi f s2=>?_,fun G2 H2 f s2=>?_,fun i r E x H3 hi f s2 y=>?_⟩⟩⟩
  ·rw[O]at hi;exact⟨j,l,j[i],l[i],aA.of (s2 _ _ (f _ _ C)),aA.of (s2 _ _ (f _ _ D)),by simp[l1,hi],by simp[l2,<-hl,hi]⟩
  ·exact⟨j,l,aA.of (s2 _ _ (f _ _ C)),aA.of (s2 _ _ (f _ _ D)),.inl (by rw[O];omega)⟩
  ·obtain⟨p,a,b,rfl,Q,Y,hb,rfl⟩:=y;rw[O]at hi;exact yl w I i r E p a b hi f s2 Q (Y j (aA.of (s2 _ _ (f _ _ C)))) (hb l (aA.of (s2 _ _ (f _ _ D))))
 ·have J:DR K m.G (.t g) u:=R2.drop.top;have L:DR K m.G (.t n) v:=R2.top;unfold DR at J L;obtain⟨b1,j,rfl,C,w⟩:=J;obtain⟨b2,l,rfl,D,I⟩:=L;have l1:=w.len;have l2:=I.len;refine⟨b1,b2,rfl,.inr ⟨⟨j,cq.same N.wf.s C⟩,⟨l,cq.same N.wf.s D⟩,k _ _ _ M m c N ⟨fun i G2 H2 hi f s2=>?_,fun G2 H2 f s2=>?_,fun i r E x H3 hi f s2 y=>?_⟩⟩⟩
  ·rw[O]at hi;exact⟨j,l,j[i],l[i],cq.same (f.trans s2) C,cq.same (f.trans s2) D,by simp[l1,hi],by simp[l2,<-hl,hi]⟩
  ·exact⟨j,l,cq.same (f.trans s2) C,cq.same (f.trans s2) D,.inl (by rw[O];omega)⟩
  ·obtain⟨p,a,b,rfl,Q,Y,hb,rfl⟩:=y;rw[O]at hi;exact yl w I i r E p a b hi f s2 Q (Y j (cq.same (f.trans s2) C)) (hb l (cq.same (f.trans s2) D))
end
mutual
def DT.sm:DT->Bool
 |.k _=>true
 |.t l=>decide (l.length<=1000000) && DT.sms l
 |.s l=>decide (l.length<=1000000) && DT.sms l
def DT.sms:List DT->Bool
 |[]=>true
 |a::r=>DT.sm a && DT.sms r
end
theorem Cq:∀{l:List DT}{d:DT},DT.sms l=true->d∈l->DT.sm d=true
 |a::r,d,h,e=>by
  have f:(DT.sm a && DT.sms r)=true:=h;rw[iF]at f;rcases bw.mp e with e|e
  ·rw[e];exact f.1
  ·exact Cq f.2 e
def eK(K:Za)(n:Nat):Sp:=Ko 2 fun xs h φ=>h=[]/\∃d e,xs=[eS K d,eS K e]/\d.depth<=n/\e.depth<=n/\n<=8/\DT.sm d=true/\φ (.im (bv (decide (d=e)))) []
theorem B7:∀{f g:List DT},f.length=g.length->((f.zip g).map fun x=>decide (x.1=x.2)).all id=decide (f=g)
 |[],[],_=>rfl
 |[],_::_,e=>by cases e
 |_::_,[],e=>by cases e
 |d::f,e::g,h=>by
  rw[List.zip_cons_cons,aS,sW,B7 (by simpa using h)];rw[q0,iF];show(decide (d=e)=true/\_)↔_;rw[decide_eq_true_iff,decide_eq_true_iff,decide_eq_true_iff];exact⟨fun⟨a,b⟩=>by rw[a,b],fun z=>by injection z with a b;exact⟨a,b⟩⟩
theorem rM{n:Nat}{l:List DT}{d:DT}(h:DT.depths l<=n)(e:d∈l):d.depth<=n:=by
 obtain⟨i,hi,rfl⟩:=List.getElem_of_mem e;exact uC h (ef hi)
theorem vN{K:Za}{n:Nat}{i:Sp}(h:∀m,n=m+1->i=eK K m){φ:Sl->SH->Prop}{ds es:List DT}{d e:DT}(g:(d=.s ds/\e=.s es)∨(d=.t ds/\e=.t es))(M:DT.depths ds+1<=n)(N:DT.depths es+1<=n)(O:n<=8)(v:ds.length<=1000000/\DT.sms ds=true)(c:φ (.im (bv (decide (ds=es)))) []):
  SS [eS K d,eS K e] [] (au (cu (bc (aI Hd (du (cD K) (aF V0)) (du (cD K) (aF V1)))) (bf (tC (.bl false))) (br)) (bf (du (DE K) (ay (dR 2 [] (CP K (ba V0 V1)) (iT K 2 (bt U0 (bt U1 (io)))) (jx) (aW i (ba V0 V1))) bS)))) ⟨fun _ j=>φ (.im nv) j,φ,fun _ _=>False,fun _ _=>False⟩:=by
 have B:∃b,Gz K [] (eS K d) b (ds.map (eS K))/\Gz K [] (eS K e) b (es.map (eS K)):=by
  rcases g with⟨rfl,rfl⟩|⟨rfl,rfl⟩
  ·exact⟨true,.s,.s⟩
  ·exact⟨false,.t,.t⟩
 obtain⟨b,C,D⟩:=B;obtain⟨k,rfl⟩:∃k,n=k+1:=⟨n-1,by omega⟩;have E:=h k rfl;subst E;refine cJ <| gQ <| HE <| JB (K:=K) <| Gh <| aY rfl ⟨_,_,C,Gh <| aY rfl ⟨_,_,D,_,_,rfl,rfl,_,rfl,?_⟩⟩;rw[aq,aq];refine ifB (fun z=>?_) (fun z=>?_)
 ·refine ka <| zZ ?_;have:decide (ds=es)=false:=zzr0 fun y=>by rw[y]at z;simp at z
  rw[this]at c;exact c
 ·have G:(ds.length:Int)=es.length:=by simpa using z
  have l:ds.length=es.length:=by omega
  refine iN <| ka <| JE <| HC (K:=K) <| JG (K:=K) <| aY rfl <| aY rfl ⟨ds,es,?_,l,BD (xs:=ds.zip es) (p:=fun _=>true) (f:=fun x=>bv (decide (x.1=x.2))) ⟨?_,fun x hx=>?_,.inr (.inl ⟨(ds.zip es).map fun x=>bv (decide (x.1=x.2)),?_,(ds.zip es).map fun x=>decide (x.1=x.2),?_,?_⟩)⟩⟩
  ·rcases g with⟨rfl,rfl⟩|⟨rfl,rfl⟩
   ·exact .inl ⟨rfl,rfl⟩
   ·exact .inr ⟨rfl,rfl⟩
  ·rw[List.length_zip];omega
  ·obtain⟨o,q⟩:=x;have u:=(tw hx).1;have H:=(tw hx).2;refine CW (K:=K) .w rfl <| eP <| cH <| eP <| cH <| sL <| JF ⟨rfl,fun _=>?_⟩;refine HD (K:=K) <| fZ <| aY rfl <| fZ <| aY rfl <| uA ⟨by simp[plain],Cn.imp (cn_h (φ:=fun r _=>r=.im (bv (decide (o=q)))) ⟨rfl,o,q,rfl,rM (by omega) u,rM (by omega) H,by omega,Cq v.2 u,rfl⟩) fun r j e=>.inl ⟨_,e,e⟩⟩
  ·have I:(ds.zip es).filter (fun _=>true)=ds.zip es:=List.filter_eq_self.mpr fun _ _=>rfl;rw[I];generalize(ds.zip es).map (fun x=>bv (decide (x.1=x.2)))=L
   induction L with
   |nil=>exact .nil
   |cons a L J=>exact .cons J
  ·rw[eZ];rfl
  ·rw[B7 l];exact c
theorem EY{K:Za}{n:Nat}{h:Sp}(g:∀m,n=m+1->h=eK K m){o:List V}{H:Hp}{Q:VK}{E:XK}(q:eK K n o H Q E):zc K h (bJ Q) (start Ah o) H:=by
 refine body q ?_;rintro _ _ φ ⟨rfl,d,e,rfl,p,u,v,w,c⟩;refine cJ <| gQ <| kD <| JD <| aY rfl ⟨_,.d,_,rfl,bC <| iN ?_⟩;have no:¬d=e->φ (.im (bv false)) []:=fun z=>by rw[zzr0 z]at c;exact c
 cases e with
 |k a =>
  cases a with
  |inl i =>
   refine cJ <| gQ <| kD <| dP <| aY rfl ⟨_,false,rfl,rfl,_,rfl,bC <| iN ?_⟩;refine cJ <| gQ <| kD <| dP <| aY rfl ⟨_,false,rfl,rfl,_,rfl,bC <| iN ?_⟩;refine cJ <| gQ <| kD <| dP <| aY rfl ⟨_,true,rfl,rfl,_,rfl,bI <| ka <| yi <| dP <| aY rfl ?_⟩;cases d with
   |k b =>
    cases b with
    |inl j=>exact⟨_,true,rfl,rfl,_,rfl,bI <| yi <| HB <| dP <| aY rfl ⟨_,false,rfl,rfl,_,rfl,_,rfl,bI <| Gi <| aY rfl <| aY rfl ⟨_,_,.d,.d,cf _,cf _,c⟩⟩⟩
    |inr j=>exact⟨_,false,rfl,rfl,_,rfl,bC <| no nofun⟩
   |t l=>exact⟨_,false,rfl,rfl,_,rfl,bC <| no nofun⟩
   |s l=>exact⟨_,false,rfl,rfl,_,rfl,bC <| no nofun⟩
  |inr i =>
   refine cJ <| gQ <| kD <| dP <| aY rfl ⟨_,false,rfl,rfl,_,rfl,bC <| iN ?_⟩;refine cJ <| gQ <| kD <| dP <| aY rfl ⟨_,true,rfl,rfl,_,rfl,bI <| ka <| yi <| dP <| aY rfl ?_⟩;cases d with
   |k b =>
    cases b with
    |inl j=>exact⟨_,false,rfl,rfl,_,rfl,bC <| no nofun⟩
    |inr j=>exact⟨_,true,rfl,rfl,_,rfl,bI <| Gi <| aY rfl <| aY rfl ⟨_,_,.d,.d,cf _,cf _,c⟩⟩
   |t l=>exact⟨_,false,rfl,rfl,_,rfl,bC <| no nofun⟩
   |s l=>exact⟨_,false,rfl,rfl,_,rfl,bC <| no nofun⟩
 |t f =>
  refine cJ <| gQ <| kD <| dP <| aY rfl ⟨_,false,rfl,rfl,_,rfl,bC <| iN ?_⟩;refine cJ <| gQ <| kD <| dP <| aY rfl ⟨_,false,rfl,rfl,_,rfl,bC <| iN ?_⟩;refine cJ <| gQ <| kD <| dP <| aY rfl ⟨_,false,rfl,rfl,_,rfl,bC <| iN ?_⟩;refine cJ <| gQ <| yj <| kD <| dP <| aY rfl ⟨_,true,rfl,rfl,_,rfl,bI <| Gj <| kD <| dP <| aY rfl ?_⟩;cases d with
  |k b=>cases b<;>exact⟨_,false,rfl,rfl,_,rfl,bI <| ka <| zZ <| no nofun⟩
  |s l=>exact⟨_,false,rfl,rfl,_,rfl,bI <| ka <| zZ <| no nofun⟩
  |t ld =>
   refine⟨_,true,rfl,rfl,_,rfl,bC <| iN <| cJ <| gQ <| yj <| kD <| dP <| aY rfl ⟨_,false,rfl,rfl,_,rfl,bC <| bC <| iN ?_⟩⟩;have r:=vN (K:=K) (φ:=φ) (ds:=ld) (es:=f) g (.inr ⟨rfl,rfl⟩) p u v ?_ ?_
   ·exact r
   ·have:(decide (ld.length<=1000000) && DT.sms ld)=true:=w;rw[iF]at this;exact⟨of_decide_eq_true this.1,this.2⟩
   ·have:decide (DT.t ld=DT.t f)=decide (ld=f):=by
     rw[q0,decide_eq_true_iff,decide_eq_true_iff];exact⟨fun z=>by injection z,fun z=>by rw[z]⟩
    rw[this]at c;exact c
 |s f =>
  refine cJ <| gQ <| kD <| dP <| aY rfl ⟨_,false,rfl,rfl,_,rfl,bC <| iN ?_⟩;refine cJ <| gQ <| kD <| dP <| aY rfl ⟨_,false,rfl,rfl,_,rfl,bC <| iN ?_⟩;refine cJ <| gQ <| kD <| dP <| aY rfl ⟨_,false,rfl,rfl,_,rfl,bC <| iN ?_⟩;refine cJ <| gQ <| yj <| kD <| dP <| aY rfl ⟨_,false,rfl,rfl,_,rfl,bC <| bC <| iN ?_⟩;refine cJ <| gQ <| yj <| kD <| dP <| aY rfl ⟨_,true,rfl,rfl,_,rfl,bI <| Gj <| kD <| dP <| aY rfl ?_⟩;cases d with
  |k b=>cases b<;>exact⟨_,false,rfl,rfl,_,rfl,bI <| ka <| zZ <| no nofun⟩
  |t l=>exact⟨_,false,rfl,rfl,_,rfl,bI <| ka <| zZ <| no nofun⟩
  |s ld =>
   refine⟨_,true,rfl,rfl,_,rfl,bC <| iN ?_⟩;have r:=vN (K:=K) (φ:=φ) (ds:=ld) (es:=f) g (.inl ⟨rfl,rfl⟩) p u v ?_ ?_
   ·exact r
   ·have:(decide (ld.length<=1000000) && DT.sms ld)=true:=w;rw[iF]at this;exact⟨of_decide_eq_true this.1,this.2⟩
   ·have:decide (DT.s ld=DT.s f)=decide (ld=f):=by
     rw[q0,decide_eq_true_iff,decide_eq_true_iff];exact⟨fun z=>by injection z,fun z=>by rw[z]⟩
    rw[this]at c;exact c
theorem jh(a b c:Str):a++b++c=a++(b++c):=sv (by simp[dH])
theorem fK(a b:Str):(a++b).length=a.length+b.length:=by rw[aZ,aZ,aZ,dH,aV]
def Jz(z:Str):List Str->Str
 |[]=>""
 |y::ys=>ys.foldl (fun a p=>a++z++p) y
theorem qw(z:Str)(e:Zb):eg z e=Jz z e:=by
 unfold eg cT.Str.glued;cases e with
 |nil=>rfl
 |cons y e =>
  have:∀(e:Zb) (y:Str),(⟨e.foldl (fun f p=>f++z.cps++p.cps) y.cps⟩:Str)=e.foldl (fun a p=>a++z++p) y:=by
   intro e
   induction e with
   |nil=>intro y;rfl
   |cons x e g=>intro y;rw[mN,mN,<-g];rfl
  exact this e y
def ja(ws:Zb):Str:=Jz " " ws
def eW(rows:List (List Str)):Str:=rows.foldl (fun acc r=>acc++(ja r++"\n")) ""
theorem m7(rows:List (List Str))(r:Zb):eW (rows++[r])=eW rows++(ja r++"\n"):=by unfold eW;rw[sR];rfl
theorem iB:∀(e:Zb) (y:Str),(∀w∈e,w.length<=8)->(e.foldl (fun(a p:Str)=>a++(" ":Str)++p) y).length<=y.length+9 * e.length
 |[],y,_=>by simp
 |p::e,y,h=>by
  rw[mN];have:=iB e (y++(" ":Str)++p) fun w f=>h w (bQ _ f);rw[fK,fK]at this;have g:=h p bR;have i:(" ":Str).length=1:=by decide +kernel
  rw[bP];omega
def uN(r:Zb):Prop:=r.length<=151/\∀w∈r,w.length<=8
theorem Cu{r:Zb}(h:uN r):(ja r).length<=1359:=by
 cases r with
 |nil=>exact cf _
 |cons y a =>
  have:=iB a y fun w e=>h.2 w (bQ _ e);have g:=h.2 y bR;have f:=h.1;rw[bP]at f;show(a.foldl _ y).length<=1359;omega
theorem nl1:("\n":Str).length=1:=by decide +kernel
theorem AX:(" ":Str).length=1:=by decide +kernel
theorem tF:∀{rows:List (List Str)},(∀r∈rows,uN r)->(eW rows).length<=1360 * rows.length:=by
 intro rows;refine lm (fun rows=>(∀r∈rows,uN r)->(eW rows).length<=1360 * rows.length) (fun _=>cf _) (fun rows r a h=>?_) rows;have e:=a fun x hx=>h x (cL _ hx);have f:=Cu (h r (by simp));rw[m7,fK,fK,nl1,aV];show _<=1360 * (rows.length+1);omega
def a_(d:av):List Str:=d.a::d.sg++[d.b]
def bo(J0 J4 J5:Zb):List (List Str):=[("asks":Str)::J0,("says":Str)::J4,("rooms":Str)::J5]
def bG(J0 J4 J5:Zb)(ds:List av):List (List Str):=bo J0 J4 J5++ds.map a_
section
variable{J0 J4 J5:Zb}{ds:List av}
theorem bO.door(m:bO J0 J4 J5 ds){d:av}(o:d∈ds):uN (a_ d):=by
 obtain⟨a,b,p⟩:=m.good d o;have g:∀{w n},eT n->w∈n->w.length<=8:=fun h e=>(h.2 _ e).hi;have i:=g m.okR a;have j:=g m.okR b;unfold a_;rcases p with⟨w,k,e⟩|⟨w,k,e⟩|e
 ·rw[e];have l:=g m.okA k;refine⟨by simp,fun x hx=>?_⟩;have f:x=d.a∨x=("ask":Str)∨x=w∨x=d.b:=by simpa using hx
  rcases f with rfl|rfl|rfl|rfl
  ·exact i
  ·decide +kernel
  ·exact l
  ·exact j
 ·rw[e];have l:=g m.okS k;refine⟨by simp,fun x hx=>?_⟩;have f:x=d.a∨x=("say":Str)∨x=w∨x=d.b:=by simpa using hx
  rcases f with rfl|rfl|rfl|rfl
  ·exact i
  ·decide +kernel
  ·exact l
  ·exact j
 ·rw[e];refine⟨by unfold aJ;simp,fun x hx=>?_⟩;have f:x=d.a∨x=("still":Str)∨x=d.b:=by unfold aJ at hx;simpa using hx
  rcases f with rfl|rfl|rfl
  ·exact i
  ·decide +kernel
  ·exact j
theorem ye{e:Str}{a:Zb}(h:eT a)(g:a.length<=150)(f:e.length<=8):uN (e::a):=⟨by rw[bP];omega,fun x hx=>by
 rcases bw.mp hx with rfl|hx
 ·exact f
 ·exact(h.2 _ hx).hi⟩
theorem bO.heads(m:bO J0 J4 J5 ds):∀r∈bo J0 J4 J5,uN r:=fun r e=>by
 have f:=m.asks4;have g:=m.says4;have a:r=("asks":Str)::J0∨r=("says":Str)::J4∨r=("rooms":Str)::J5:=by unfold bo at e;simpa using e
 rcases a with rfl|rfl|rfl
 ·exact ye m.okA (by omega) (by decide +kernel)
 ·exact ye m.okS (by omega) (by decide +kernel)
 ·exact ye m.okR m.rooms26 (by decide +kernel)
theorem bO.rows(m:bO J0 J4 J5 ds):∀r∈bG J0 J4 J5 ds,uN r:=fun r a=>by
 rcases bu.mp a with h|h
 ·exact m.heads r h
 ·obtain⟨d,e,rfl⟩:=aR.mp h;exact m.door e
end
theorem rF:(2000000:Nat)<=ao:=by decide
def tU(C:Addr):Sp:=fun vs H Q _=>∃(x dx o4:Addr) (fs:List (Str×V)) (ts:Ze),vs=[.ref x]/\H x=some (.ins C dx fs)/\lk "own_doors" fs=some (.ref o4)/\H o4=some (.lst (ts.map V.ref))/\∀l,H l=none->Q (.ref l) (upd H l (.lst (ts.map V.ref)))
theorem Fi{K:Za}{C:Addr}(M:MC K C){a:List V}{H:Hp}{Q:VK}{E:XK}(h:tU C a H Q E):rS K (bJ Q) (start sr a) H:=by
 obtain⟨x,f,e,fs,l,rfl,g,i,j,k⟩:=h;exact⟨_,rfl,x,C,f,fs,.ref e,rfl,g,M.cls,M.a4,i,.inl ⟨e,_,rfl,.inl (aA.of j),k⟩⟩
theorem fg0{s:List Sl}(e:s.all (uv [])=true:=by rfl):Fg s [] []:=⟨List.Sublist.refl _,e,rfl,fun _ _ z=>nomatch z⟩
theorem HW{s a:List Sl}{I:List Sl->SH->Prop}(w:Wk s a)(i:I a [])(e:a.all (uv [])=true:=by rfl):KN s [] I:=⟨a,[],w,fg0 e,i⟩
theorem yk{α:Type}{xs:List α}{enc:α->AV}{i:Nat}(hi:i<(xs.map enc).length):∃a,xs[i]?=some a/\Bz (xs.map enc) i=enc a:=by
 rw[aq]at hi;refine⟨xs[i],by simp[hi],?_⟩;unfold Bz;rw[sP,bD];simp[hi]
abbrev gs(a p:Str):Str:=a++(" ":Str)++p
theorem we{e:Zb}{j:Nat}{w:Str}(h:e[j]?=some w)(a:Str):(e.take (j+1)).foldl gs a=gs ((e.take j).foldl gs a) w:=by rw[take_snoc h,sR];rfl
def kb(K:Za):Sp:=Ko 1 fun xs h φ=>h=[]/\∃J0 J4 J5 ds,bO J0 J4 J5 ds/\xs=[eS K (HX J0 J4 J5 ds)]/\φ (eS K (bx (eW (bG J0 J4 J5 ds)))) []
theorem A0{K:Za}{L:List V}{H:Hp}{Q:VK}{E:XK}(q:kb K L H Q E):u_ K (bJ Q) (start vq L) H:=by
 refine body q ?_;rintro _ _ φ ⟨rfl,J0,e,f,g,m,rfl,c⟩;have k9:=rF;have z1:=m.asks4;have z2:=m.says4;have z3:=m.rooms26;have z4:=m.few;refine cJ <| ln <| aY rfl <| BA (K:=K) rfl <| eP <| cH <| eP <| cH <| eP <| cH <| eP <| cH <| sL ?_;refine cJ <| ln <| kC (K:=K) <| cH ?_;refine cJ <| xC <| ym <| JC (K:=K) <| fZ <| Bx (K:=K) <| fZ <| kC (K:=K) <| fZ <| aY rfl <| uA ⟨_,.cons (.cons .nil),by show 2<=ao;decide,?_⟩;refine fZ <| Bx (K:=K) <| fZ <| kC (K:=K) <| fZ <| aY rfl <| uA ⟨_,.cons (.cons .nil),by show 2<=ao;decide,?_⟩;refine fZ <| Bx (K:=K) <| fZ <| kC (K:=K) <| fZ <| aY rfl <| uA ⟨_,.cons (.cons .nil),by show 2<=ao;decide,?_⟩
 let C:List (Str×List Str):=[("asks",J0),("says",e),("rooms",f)]
 have N:bo J0 e f=C.map fun x=>x.1::x.2:=rfl;refine uA ⟨by show 3<=ao;decide,.inl ⟨_,.cons (.cons (.cons .nil)),_,C.map (fun x=>dv K (.t [bx x.1,.s (x.2.map bx)])),rfl,.s,fun i k l=>l=[]/\k=[eS K (HX J0 e f g),eS K (.s (J0.map bx)),eS K (.s (e.map bx)),eS K (.s (f.map bx)),eS K (.s (g.map lK)),eS K (bx (eW ((bo J0 e f).take i))),.no,.no,.no,.no,.no,.no,.no],HW (.refl _) ⟨rfl,rfl⟩,?_,?_⟩⟩
 ·rintro i k l hi ⟨rfl,rfl⟩;obtain⟨⟨p,n⟩,hx,v⟩:=yk (enc:=fun x:Str×List Str=>dv K (.t [bx x.1,.s (x.2.map bx)])) hi;rw[v];have z:(bo J0 e f)[i]?=some (p::n):=by rw[N,bD,hx];rfl
  have ok:=m.heads _ (ca z);have O:i<3:=hi;have D:(eW ((bo J0 e f).take i)).length<=1360 * i:=by
   have:=tF (rows:=(bo J0 e f).take i) fun r z=>m.heads r (fM z);rw[aL]at this;exact aP this (Nat.mul_le_mul_left _ (Nat.min_le_left _ _))
  have T:=ok.2 p bR;have wl:n.length<=150:=by have:=ok.1;rw[bP]at this;omega
  have y:∀w∈n,w.length<=8:=fun w u=>ok.2 w (bQ _ u);generalize M:eW ((bo J0 e f).take i)=o at D;refine BA (K:=K) rfl <| eP <| cH <| eP <| cH <| sL ?_;refine cJ <| ln <| gJ (K:=K) <| aY rfl <| aY rfl ⟨_,_,rfl,rfl,by show o.length+p.length<=_;omega,cH ?_⟩;refine cJ <| xC <| ym <| aY rfl ⟨_,n.map (fun w=>dv K (bx w)),rfl,Iw,fun j k l=>l=[]/\k=[eS K (HX J0 e f g),eS K (.s (J0.map bx)),eS K (.s (e.map bx)),eS K (.s (f.map bx)),eS K (.s (g.map lK)),eS K (bx (o++(n.take j).foldl gs p)),.no,.no,.no,.no,.no,.no,.no],HW (.cons (.cons (.cons (.cons (.cons (.cons (.no (.no (.no (.no (.no (.no (.no pQ))))))))))))) ⟨rfl,rfl⟩,?_,?_⟩
  ·rintro j k l G ⟨rfl,rfl⟩;obtain⟨w,u,v⟩:=yk (enc:=fun w=>dv K (bx w)) G;rw[v];have B:=iB (n.take j) p fun w u=>y w (fM u);have tk:(n.take j).length<=150:=by rw[aL];omega
   have I:=y w (ca u);refine cH <| ln <| gJ (K:=K) <| gJ (K:=K) <| aY rfl <| kC (K:=K) ⟨_,_,rfl,rfl,?_,aY rfl ⟨_,_,rfl,rfl,?_,cH <| HW (.cons (.cons (.cons (.cons (.cons (.cons (.no (.no (.no (.no (.no (.no (.no pQ))))))))))))) ⟨rfl,?_⟩⟩⟩
   ·rw[fK,AX];have:((n.take j).foldl gs p).length<=p.length+9 * (n.take j).length:=B;omega
   ·rw[fK,fK,AX];have:((n.take j).foldl gs p).length<=p.length+9 * (n.take j).length:=B;omega
   ·rw[we u];show _=[_,_,_,_,_,eS K (bx (o++(gs _ w))),_,_,_,_,_,_,_];unfold gs;rw[jh,jh,jh]
  ·rintro k l ⟨rfl,rfl⟩;rw[aq,cO];have B:(n.foldl gs p).length<=p.length+9 * n.length:=iB n p y;refine ln <| gJ (K:=K) <| aY rfl <| kC (K:=K) ⟨_,_,rfl,rfl,by rw[fK,nl1];omega,cH <| HW (.cons (.cons (.cons (.cons (.cons (.cons (.no (.no (.no (.no (.no (.no (.no pQ))))))))))))) ⟨rfl,?_⟩⟩;rw[take_snoc z,m7,M];show _=[_,_,_,_,_,eS K (bx (o++(n.foldl gs p++("\n":Str)))),_,_,_,_,_,_,_];rw[jh]
 ·rintro k l ⟨rfl,rfl⟩;have U:(bo J0 e f).take (C.map (fun x=>dv K (.t [bx x.1,.s (x.2.map bx)]))).length=bo J0 e f:=rfl;rw[U];refine cJ <| xC <| ym <| aY rfl ⟨_,g.map (fun d=>dv K (lK d)),rfl,Iw,fun i k l=>l=[]/\k=[eS K (HX J0 e f g),eS K (.s (J0.map bx)),eS K (.s (e.map bx)),eS K (.s (f.map bx)),eS K (.s (g.map lK)),eS K (bx (eW (bo J0 e f++(g.take i).map a_))),.no,.no,.no,.no,.no,.no,.no],HW (.refl _) ⟨rfl,?_⟩,?_,?_⟩
  ·show _=[_,_,_,_,_,eS K (bx (eW (bo J0 e f++[]))),_,_,_,_,_,_,_];rw[dA]
  ·rintro i k l hi ⟨rfl,rfl⟩;obtain⟨d,hx,v⟩:=yk (enc:=fun d=>dv K (lK d)) hi;rw[v];have Y:i<1000:=by rw[aq]at hi;omega
   have ok:=m.door (ca hx);have D:(eW (bo J0 e f++(g.take i).map a_)).length<=1360 * 1003:=by
    have:=tF (rows:=bo J0 e f++(g.take i).map a_) fun r z=>by
     rcases bu.mp z with h|h
     ·exact m.heads r h
     ·obtain⟨d',J,rfl⟩:=aR.mp h;exact m.door (fM J)
    refine aP this (Nat.mul_le_mul_left _ ?_);rw[aV,aq,aL];show 3+_<=1003;omega
   have snoc:eW (bo J0 e f++(g.take (i+1)).map a_)=eW (bo J0 e f++(g.take i).map a_)++(ja (a_ d)++("\n":Str)):=by
    rw[take_snoc hx,aK,<-dU];exact m7 _ _
   generalize M:eW (bo J0 e f++(g.take i).map a_)=o at D snoc;have a8:=ok.2 d.a (by unfold a_;simp);have b8:=ok.2 d.b (by unfold a_;simp);have y:∀w∈d.sg,w.length<=8:=fun w u=>ok.2 w (by unfold a_;simp[u]);have sl:d.sg.length<=149:=by have:=ok.1;unfold a_ at this;simp at this;omega
   refine BA (K:=K) rfl <| eP <| cH <| eP <| cH <| eP <| cH <| sL ?_;refine cJ <| ln <| gJ (K:=K) <| aY rfl <| aY rfl ⟨_,_,rfl,rfl,by omega,cH ?_⟩;refine cJ <| xC <| JH <| aY rfl ⟨_,d.sg.map (fun w=>dv K (bx w)),rfl,KB,fun j k l=>l=[]/\k=[eS K (HX J0 e f g),eS K (.s (J0.map bx)),eS K (.s (e.map bx)),eS K (.s (f.map bx)),eS K (.s (g.map lK)),eS K (bx (o++(d.sg.take j).foldl gs d.a)),.no,.no,.no,.no,.no,eS K (bx d.b),.no],HW (.cons (.cons (.cons (.cons (.cons (.cons (.no (.no (.no (.no (.no (.cons (.no pQ))))))))))))) ⟨rfl,rfl⟩,?_,?_⟩
   ·rintro j k l G ⟨rfl,rfl⟩;obtain⟨w,u,v⟩:=yk (enc:=fun w=>dv K (bx w)) G;rw[v];have B:((d.sg.take j).foldl gs d.a).length<=d.a.length+9 * (d.sg.take j).length:=iB (d.sg.take j) d.a fun w u=>y w (fM u);have tk:(d.sg.take j).length<=149:=by rw[aL];omega
    have I:=y w (ca u);refine cH <| ln <| gJ (K:=K) <| gJ (K:=K) <| aY rfl <| kC (K:=K) ⟨_,_,rfl,rfl,?_,aY rfl ⟨_,_,rfl,rfl,?_,cH <| HW (.cons (.cons (.cons (.cons (.cons (.cons (.no (.no (.no (.no (.no (.cons (.no pQ))))))))))))) ⟨rfl,?_⟩⟩⟩
    ·rw[fK,AX];omega
    ·rw[fK,fK,AX];omega
    ·rw[we u];show _=[_,_,_,_,_,eS K (bx (o++(gs _ w))),_,_,_,_,_,_,_];unfold gs;rw[jh,jh,jh]
   ·rintro k l ⟨rfl,rfl⟩;rw[aq,cO];have B:(d.sg.foldl gs d.a).length<=d.a.length+9 * d.sg.length:=iB d.sg d.a y;refine ln <| gJ (K:=K) <| gJ (K:=K) <| gJ (K:=K) <| aY rfl <| kC (K:=K) ⟨_,_,rfl,rfl,?_,aY rfl ⟨_,_,rfl,rfl,?_,kC (K:=K) ⟨_,_,rfl,rfl,?_,cH <| HW (.cons (.cons (.cons (.cons (.cons (.cons (.no (.no (.no (.no (.no (.no (.no pQ))))))))))))) ⟨rfl,?_⟩⟩⟩⟩
    ·rw[fK,AX];omega
    ·rw[fK,fK,AX];omega
    ·rw[fK,fK,fK,AX,nl1];omega
    ·rw[snoc];have er:ja (a_ d)=d.sg.foldl gs d.a++(" ":Str)++d.b:=by
      show(d.sg++[d.b]).foldl gs d.a=_;rw[sR];rfl
     rw[er];simp only[jh]
  ·rintro k l ⟨rfl,rfl⟩;rw[aq,cO];exact ka <| aY rfl c
def va(K:Za):TS :=
 bf (tC (.str "abcdefghijklmnopqrstuvwxyz"))
def vt:List Str:=[]
def vc(K:Za)(sp_law_letters:Sp):TS :=
 bf (iK (EQ Jf Jf (tC (.int 1)) (du (cD K) (aF V0)) (tC (.int 8))) (du (DE K) (aF (dR 1 [] (Jy V0) U0 (jx) (aI Ku V0 (aW sp_law_letters bS))))))
def vw:List Str:=["word"]
def AC(K:Za)(sp_law_take:Sp)(sp_law_letters:Sp):TS :=
 au (aN (aI eM (tC (.int 1)) (aW sp_law_take (ba V0 (tC (.int 8))))) U1)
 (au (cu (bc (aI mw (aW sp_law_take (ba V0 (tC (.int 12)))) (tC (.int 0)))) (aN (aI (cy K) (eJ (ay (tC (.int 0)) (fu (tC (.int 9)) (tC (.int 10)) (tC (.int 30))))) (aW sp_law_take (ba V0 (tC (.int 4))))) U1) (br))
 (au (aN (pf K "str" (vT K) (tC (.str "")) (ay (dR 1 [0] (rG (aF V1)) U0 (jx) (aI xL (aW sp_law_letters bS) (aW sp_law_take (ba V1 (tC (.int 26)))))) bS)) U2)
 (au (cu (xB (bc (aI Hd V2 (tC (.str "")))) (bc (aI mw (aW sp_law_take (ba V0 (tC (.int 9)))) (tC (.int 0))))) (au (aN (tC (.str " !\"#$&'()*+,-./0123456789:;<=>?@ABCDEFGHIJKLMNOPQRSTUVWXYZ[\\]^_{|}~\n\t")) U3)
 (au (aN (aW sp_law_take (ba V0 V1)) U4)
 (aN (aI fL (aI fL (nN xK V2 (bM) (cE V4)) (aI xL V3 (aW sp_law_take (ba V0 (du (cD K) (aF V3)))))) (nN xK V2 (cE (aI eM V4 (tC (.int 1)))) (bM))) U2))) (br))
 (bf V2))))
def BK:List Str:=["pen","many","word","others","at"]
def nY(K:Za)(sp_law_is_name:Sp):TS :=
 au (cu (bc (aI (se K) V0 (eJ (bS)))) (bf (tC (.int 0))) (br))
 (au (gk (lI K (aF (nN (jb K) V0 (bM) (cE V1)))) (iT K 2 (bt U3 (bt U4 (io)))) (cu (Du (xm (tB (aW sp_law_is_name (aF V4)))) (Du (bc (aI (oO K false) V4 (nN (jb K) V0 (bM) (cE V3)))) (bc (aI (oO K false) V4 V2)))) (bf V3) (br)))
 (au (cu (bc (aI DC (du (cD K) (aF V0)) V1)) (bf V1) (br))
 (bf (tC .non))))
def pc:List Str:=["words","most","others","number","word"]
def pZ(K:Za):TS :=
 au (dB (AT K (fu V0 V1 V2)))
 (au (Cr K V0 V1 "part")
 (Cr K V0 V2 "number"))
def qQ:List Str:=["self","part","number"]
def xf(C:Addr)(sp_i:Sp)(E:XK):TS:=cu (tB (Cj V1)) (AI C sp_i E (ba V0 V1)) (br)

def vb(K:Za):TS :=
 au (cu (bc (aI mw (du (cD K) (aF V0)) (tC (.int 1)))) (bf (aI (se K) V0 (d7 (aF (tC (.str "still")))))) (br))
 (bf (IU (iK (aI mw (aI (t8 K) V0 (tC (.int 0))) (tC (.str "ask"))) (aI (oO K false) (aI (t8 K) V0 (tC (.int 1))) V1)) (iK (aI mw (aI (t8 K) V0 (tC (.int 0))) (tC (.str "say"))) (aI (oO K false) (aI (t8 K) V0 (tC (.int 1))) V2))))
def vv:List Str:=["sign","asks","says"]
def pS(K:Za)(sp_law_is_sign:Sp):TS :=
 au (aN (xz) U4)
 (au (gk (lI K (aF (nN (jb K) V3 (bM) (cE (tC (.int 2000)))))) (iT K 2 (bt U5 (bt (iT K 3 (bt U6 (bt U7 (bt U8 (io))))) (io)))) (au (cu (Du (bc (aI (oO K true) V6 V2)) (Du (bc (aI (oO K true) V8 V2)) (xm (tB (aW sp_law_is_sign (fu V7 V0 V1)))))) (bf V5) (br))
 (au (cu (tB (EN K (d7 (fu V6 V7 V8)) V4)) (bf V5) (br))
 (tW V4 (d7 (fu V6 V7 V8)) (tC (.bl true))))))
 (au (cu (bc (aI DC (du (cD K) (aF V3)) (tC (.int 2000)))) (bf (tC (.int 2000))) (br))
 (bf (tC .non))))
def qJ:List Str:=["asks","says","rooms","doors","seen","number","room","sign","other"]
def ze(K:Za)(sp_law_still_on:Sp):TS :=
 au (aN (dR 1 [] (dS K V1) U0 (bc (aI (se K) (aI (DB K) V0 (tC (.int 1))) (d7 (aF (tC (.str "still")))))) V0) U2)
 (au (gk (lI K (aF V0)) (iT K 2 (bt U3 (bt U4 (io)))) (au (aN (dR 1 [4] (dS K V2) U0 (bc (aI mw (aI (DB K) V0 (tC (.int 0))) V1)) (aI (DB K) V0 (tC (.int 2)))) U5)
 (cu (bc (aI (oO K false) V4 (aW sp_law_still_on (ba V2 V5)))) (bf V3) (br))))
 (bf (tC .non)))
def Ai:List Str:=["rooms","doors","stills","number","room","behind"]
def Dn(K:Za)(sp_law_round:Sp)(sp_law_wrong_door:Sp)(sp_law_first_wrong:Sp):TS :=
 au (aN (eJ (ay (d7 (ba (tC (.str "asks")) (aW sp_law_first_wrong (fu V0 (tC (.int 4)) (eJ (bS)))))) bS)) U4)
 (au (dB (pf K "list" fV V4 (ay (d7 (ba (tC (.str "says")) (aW sp_law_first_wrong (fu V1 (tC (.int 4)) V0)))) bS)))
 (au (dB (pf K "list" fV V4 (ay (d7 (ba (tC (.str "rooms")) (aW sp_law_first_wrong (fu V2 (tC (.int 150)) (eJ (bS)))))) bS)))
 (au (dB (pf K "list" fV V4 (ay (d7 (ba (tC (.str "doors")) (aW sp_law_wrong_door (ay V0 (fu V1 V2 V3))))) bS)))
 (au (gk (dS K V4) (iT K 2 (bt U5 (bt U6 (io)))) (cu (tB (Cj V6)) (bf (d7 (ba V5 V6))) (br)))
 (au (aN (aW sp_law_round (ba V2 V3)) U6)
 (au (cu (tB (Cj V6)) (bf (d7 (ba (tC (.str "still")) V6))) (br))
 (bf (eJ (ay V0 (fu V1 V2 V3))))))))))
def Eh:List Str:=["asks","says","rooms","doors","wrong","part","number"]



def Dp(K:Za):TS :=
 bf (iK (aI DC (du (cD K) (aF V0)) (tC (.int 1))) (aI mw (aI (cy K) V0 (tC (.int 0))) V1))
def Ej:List Str:=["words","head"]
def Dq(K:Za):TS :=
 au (cu (bc (aI mw (du (cD K) (aF V0)) (tC (.int 3)))) (bf (aI mw (aI (cy K) V0 (tC (.int 1))) (tC (.str "still")))) (br))
 (bf (iK (aI mw (du (cD K) (aF V0)) (tC (.int 4))) (aI (oO K false) (aI (cy K) V0 (tC (.int 1))) (d7 (ba (tC (.str "ask")) (tC (.str "say")))))))
def Ek:List Str:=["words"]
def EH(K:Za)(a_HEADS:Addr)(sp_is_head:Sp)(sp_is_door:Sp):TS :=
 au (cu (bc (aI (oO K false) (tC (.str "")) V0)) (bf (tC (.bl false))) (br))
 (bf (tIf (bc (aI A9 V1 (du (cD K) (aF (tC (.ref a_HEADS)))))) (aW sp_is_head (ba V0 (aI (t8 K) (tC (.ref a_HEADS)) V1))) (aW sp_is_door (aF V0))))
def Gx:List Str:=["words","number"]
def Af:List Str:=["ended","rest","number","words"]
def Dr(K:Za):TS :=
 bf (d7 (ay (aI (cy K) V0 (tC (.int 0))) (ay (du (Ih K) (ay (nN (jb K) V0 (cE (tC (.int 1))) (cE (H_ (rU fun i=>.int (-i)) (tC (.int 1))))) bS)) (aF (aI (cy K) V0 (H_ (rU fun i=>.int (-i)) (tC (.int 1))))))))
def El:List Str:=["words"]
def JU:List Str:=["text","lines","ended","asks","says","rooms"]
def sk:List Str:=["given","found","wrong","e"]
def jn(c:Nat):List (List Nat)->List Nat
 |[]=>[]
 |[a]=>a
 |a::b::l=>a++c::jn c (b::l)
theorem KL{c:Nat}{x y:List Nat}:∀{a b:List Nat},c∉a->c∉b->a++c::x=b++c::y->a=b/\x=y
 |[],[],_,_,h=>by injection h with _ h;exact⟨rfl,h⟩
 |[],b::bs,_,e,h=>by injection h with h _;exact absurd (h▸bR) e
 |a::g,[],f,_,h=>by injection h with h _;exact absurd (h▸bR) f
 |a::g,b::bs,f,e,h=>by
  injection h with i j;obtain⟨k,l⟩:=KL (fun z=>f (bQ _ z)) (fun z=>e (bQ _ z)) j;exact⟨by rw[i,k],l⟩
theorem FY{c:Nat}:∀{e bs:List (List Nat)},e≠[]->bs≠[]->(∀a∈e,c∉a)->(∀b∈bs,c∉b)->jn c e=jn c bs->e=bs
 |[],_,h,_,_,_,_=>absurd rfl h
 |_,[],_,h,_,_,_=>absurd rfl h
 |[a],[b],_,_,_,_,h=>by rw[show a=b from h]
 |[a],b::i::bs,_,_,f,_,h=>by
  have h:a=b++c::jn c (i::bs):=h;exact absurd (by rw[h];simp) (f a bR)
 |a::j::e,[b],_,_,_,g,h=>by
  have h:a++c::jn c (j::e)=b:=h;exact absurd (by rw[<-h];simp) (g b bR)
 |a::j::e,b::i::bs,_,_,f,g,h=>by
  obtain⟨k,l⟩:=KL (f a bR) (g b bR) (show a++c::jn c (j::e)=b++c::jn c (i::bs)from h);rw[k,FY (by simp) (by simp) (fun x hx=>f x (bQ _ hx)) (fun x hx=>g x (bQ _ hx)) l]
theorem lH(c:Nat):∀e:List Str,((⟨#[c]⟩:Str).join e).cps.toList=jn c (e.map (·.cps.toList))
 |[]=>rfl
 |[a]=>rfl
 |a::b::l=>by
  show(a++(⟨#[c]⟩:Str)++(⟨#[c]⟩:Str).join (b::l)).cps.toList=_;rw[dH,dH,lH c (b::l)];show a.cps.toList++[c]++_=a.cps.toList++c::_;rw[dU]
  rfl
theorem Ju(c:Nat)(y p:List Nat):∀l,jn c ((y++c::p)::l)=y++c::jn c (p::l)
 |[]=>rfl
 |a::l=>by show(y++c::p)++c::jn c (a::l)=y++c::(p++c::jn c (a::l));simp
theorem oY(c:Nat):∀e:List Str,(Jz ⟨#[c]⟩ e).cps.toList=jn c (e.map (·.cps.toList))
 |[]=>rfl
 |y::e=>by
  show(e.foldl (fun(a p:Str)=>a++(⟨#[c]⟩:Str)++p) y).cps.toList=_
  induction e generalizing y with
  |nil=>rfl
  |cons p g f =>
   rw[mN,f,aS,aS,aS,dH,dH,dU];show jn c ((y.cps.toList++c::p.cps.toList)::_)=_;rw[Ju]
   rfl
theorem jJ(x y:Str):bE x y≠[]:=fun h=>by
 have:=len_of_split (l:=(bE x y).map fun s=>(s,0)) (x:=x) (y:=y) (by rw[eZ];exact List.map_id _);rw[h]at this;exact absurd this (by decide)
theorem C3:∀{xs a:Zb},xs.map (·.cps.toList)=a.map (·.cps.toList)->xs=a
 |[],[],_=>rfl
 |[],_::_,h=>by cases h
 |_::_,[],h=>by cases h
 |x::xs,y::a,h=>by
  rw[aS,aS]at h;injection h with e f;rw[sv e,C3 f]
theorem zu{c:Nat}{x:Str}{e:Zb}(i:e≠[])(hf:∀y∈e,c∉y.cps.toList)(h:x.cps.toList=jn c (e.map (·.cps.toList))):bE x ⟨#[c]⟩=e:=by
 refine C3 (FY (c:=c) (fun z=>jJ _ _ (mM.mp z)) (fun z=>i (mM.mp z)) ?_ ?_ ?_)
 ·intro a f;obtain⟨p,g,rfl⟩:=aR.mp f;exact StrLaws.split_free _ _ _ g
 ·intro a f;obtain⟨p,g,rfl⟩:=aR.mp f;exact hf p g
 ·rw[<-lH,StrLaws.join_split,h]
theorem vL:(" ":Str)=⟨#[32]⟩:=by decide +kernel
theorem CH:("\n":Str)=⟨#[10]⟩:=by decide +kernel
theorem vK{r:Zb}(a:r≠[])(hf:∀w∈r,32∉w.cps.toList):bE (ja r) " "=r:=by
 unfold ja;rw[vL];exact zu a hf (oY 32 r)
theorem FZ(c:Nat):∀e:List (List Nat),jn c (e++[[]])=(e.map fun a=>a++[c]).flatten
 |[]=>rfl
 |[a]=>by show a++c::jn c [[]]=_;simp[jn]
 |a::b::l=>by
  show a++c::jn c (b::l++[[]])=_;rw[FZ c (b::l)];simp
theorem Dl(rows:List (List Str)):(eW rows).cps.toList=(rows.map fun r=>(ja r).cps.toList++[10]).flatten:=by
 have:∀(rows:List (List Str)) (a:Str),(rows.foldl (fun a r=>a++(ja r++"\n")) a).cps.toList=a.cps.toList++(rows.map fun r=>(ja r).cps.toList++[10]).flatten:=by
  intro rows
  induction rows with
  |nil=>intro a;simp
  |cons r rows e=>intro a;rw[mN,e,dH,dH,CH];simp
 have h:=this rows "";rw[show("":Str).cps.toList=[]from rfl,List.nil_append]at h;exact h
theorem ya{c d:Nat}(cd:c≠d):∀{e:List (List Nat)},(∀a∈e,c∉a)->c∉jn d e
 |[],_=>by simp[jn]
 |[a],h=>h a bR
 |a::b::l,h=>by
  show c∉a++d::jn d (b::l);rw[bu,bw];rintro(z|z|z)
  ·exact h a bR z
  ·exact cd z
  ·exact ya cd (fun x hx=>h x (bQ _ hx)) z
theorem AW{rows:List (List Str)}(hf:∀r∈rows,∀w∈r,10∉w.cps.toList):bE (eW rows) "\n"=rows.map ja++[("":Str)]:=by
 rw[CH];refine zu (by simp) ?_ ?_
 ·intro y e;rcases bu.mp e with h|h
  ·obtain⟨r,f,rfl⟩:=aR.mp h;unfold ja;rw[vL,oY];refine ya (by decide) fun a g=>?_;obtain⟨w,i,rfl⟩:=aR.mp g;exact hf r f w i
  ·have:y="":=by simpa using h
   subst this;exact iE
 ·rw[Dl,aK,show([""]:Zb).map (·.cps.toList)=[[]]from rfl,FZ,eZ,eZ]
  rfl
structure rN(w:Str):Prop where
 ne:w≠""
 sp:32∉w.cps.toList
 nl:10∉w.cps.toList
theorem jB.pl{w:Str}(h:jB w):rN w:=by
 refine⟨fun z=>?_,fun z=>?_,fun z=>?_⟩
 ·have:=h.lo;rw[z]at this;exact absurd this (by decide)
 ·exact absurd (h.al _ z) (by unfold qr;omega)
 ·exact absurd (h.al _ z) (by unfold qr;omega)
theorem xO:∀w∈([("asks":Str),"says","rooms","ask","say","still"]:Zb),rN w:=by
 intro w a;have e:∀w∈([("asks":Str),"says","rooms","ask","say","still"]:Zb),w≠""/\32∉w.cps.toList/\10∉w.cps.toList:=by decide +kernel
 exact⟨(e w a).1,(e w a).2.1,(e w a).2.2⟩
theorem bO.pl{J0 j k:Zb}{l:List av}(m:bO J0 j k l):∀r∈bG J0 j k l,∀w∈r,rN w:=by
 intro r o w hw;have f:∀{n:Zb},eT n->∀{h:Str},h∈([("asks":Str),"says","rooms","ask","say","still"]:Zb)->w∈h::n->rN w:=fun ok h p hw=>by
  rcases bw.mp hw with e|e
  ·rw[e];exact xO _ p
  ·exact(ok.2 w e).pl
 rcases bu.mp o with h|h
 ·unfold bo at h;simp only[bw,iE,or_false]at h;rcases h with rfl|rfl|rfl
  ·exact f m.okA (by simp) hw
  ·exact f m.okS (by simp) hw
  ·exact f m.okR (by simp) hw
 ·obtain⟨d,s,rfl⟩:=aR.mp h;have g:=m.good d s;unfold a_ at hw;rcases bu.mp hw with hw|hw
  ·rcases bw.mp hw with e|e
   ·rw[e];exact(m.okR.2 _ g.a).pl
   ·rcases g.sg with⟨a,i,q⟩|⟨a,i,q⟩|q
    ·rw[q]at e;simp only[bw,iE,or_false]at e;rcases e with rfl|rfl
     ·exact xO _ (by simp)
     ·exact(m.okA.2 _ i).pl
    ·rw[q]at e;simp only[bw,iE,or_false]at e;rcases e with rfl|rfl
     ·exact xO _ (by simp)
     ·exact(m.okS.2 _ i).pl
    ·rw[q]at e;have:w="still":=by simpa[aJ]using e
     rw[this];exact xO _ (by simp)
  ·have:w=d.b:=by simpa using hw
   rw[this];exact(m.okR.2 _ g.b).pl
theorem bO.rows0{J0 a e:Zb}{f:List av}:∀r∈bG J0 a e f,r≠[]:=by
 intro r g;rcases bu.mp g with h|h
 ·unfold bo at h;simp only[bw,iE,or_false]at h;rcases h with rfl|rfl|rfl<;>simp
 ·obtain⟨d,i,rfl⟩:=aR.mp h;simp[a_]
def fB:List Str:=[("asks":Str),"says","rooms"]
abbrev h_(H:Hp)(us:Ze)(rows:List (List Str)):Prop:=Paired (fun u r=>H u=some (.lst (r.map V.str))) us rows
theorem h_.same{H H':Hp}{a:Ze}{rows:List (List Str)}(h:h_ H a rows)(S:ae H H'):h_ H' a rows:=Paired.mapP h fun _ _ e=>S _ _ e
inductive lX(vs:List V)(H:Hp)(Q:VK)(E:XK):Prop
 |mk (l:Addr) (d:av):(vs=[.ref l])->(H l=some (.lst ((a_ d).map V.str)))->(d.sg.length<=1000)->(∀t H',fm H' t d->ae H H'->Q (.ref t) H')->lX vs H Q E
theorem HN(d:av):dq ((a_ d).map V.str) (some 1) (some (-1))=d.sg.map V.str:=by
 unfold dq a_;have e:(((d.a::d.sg++[d.b]:Zb).map V.str).length)=d.sg.length+2:=by simp
 have f:HT.sIx (d.sg.length+2) 0 (some 1)=1:=by unfold HT.sIx;simp
 have g:HT.sIx (d.sg.length+2) (d.sg.length+2) (some (-1))=d.sg.length+1:=by unfold HT.sIx;simp;omega
 rw[e,f,g];simp
theorem DA{K:Za}{i:List V}{H:Hp}{Q:VK}{E:XK}(h:lX i H Q E):Dr K (bJ Q) (start El i) H:=by
 obtain⟨l,d,rfl,e,v,k⟩:=h;refine⟨_,rfl,l,_,0,.str d.a,rfl,rfl,aA.of e,bW (j:=0) rfl,?_⟩;refine⟨_,rfl,_,rfl,_,rfl,_,rfl,l,_,rfl,aA.of e,fun q r=>?_⟩;rw[HN];have m:ae H (upd H q (.lst (d.sg.map V.str))):=ae.new r;have n:upd H q (.lst (d.sg.map V.str)) q=some (.lst (d.sg.map V.str)):=aa;generalize upd H q (.lst (d.sg.map V.str))=f at m n ⊢;refine⟨q,_,rfl,.inl ⟨aA.of n,fun s u=>?_⟩⟩;have g:ae H (upd f s (.tup (d.sg.map V.str))):=m.trans (ae.new u);have o:upd f s (.tup (d.sg.map V.str)) s=some (.tup (d.sg.map V.str)):=aa;generalize upd f s (.tup (d.sg.map V.str))=w at g o ⊢;refine⟨_,rfl,_,rfl,l,_,-1,.str d.b,rfl,rfl,aA.of (g _ _ e),?_,(by show 3<=ao;decide),fun t p=>?_⟩
 ·unfold a_;rw[aK];exact uM _ _
 ·exact k t _ ⟨s,aa,kp o p⟩ (g.trans (ae.new p))
theorem uE(xs:List V)(v:V):dq (xs++[v]) none (some (-1))=xs:=by
 unfold dq;have a:(xs++[v]).length=xs.length+1:=by simp
 have e:HT.sIx (xs.length+1) (xs.length+1) (some (-1))=xs.length:=by unfold HT.sIx;simp;omega
 rw[a,e];show((xs++[v]).drop (HT.sIx _ 0 none)).take (xs.length-HT.sIx _ 0 none)=xs;have f:HT.sIx (xs.length+1) 0 none=0:=rfl;rw[f];simp
abbrev pb(f:Addr)(H:Hp)(us:Ze)(rows:List (List Str)):Prop:=Paired (fun u r=>u≠f/\H u=some (.lst (r.map V.str))) us rows
theorem pb.at_{f:Addr}{H:Hp}{a:Ze}{rows:List (List Str)}(h:pb f H a rows):h_ H a rows:=Paired.mapP h fun _ _ e=>e.2
theorem pb.add{f:Addr}{H a:Hp}{g:Ze}{rows:List (List Str)}{u:Addr}{r:Zb}{o:HO}(h:pb f H g rows)(S:ae H a)(i:u≠f)(j:a u=some (.lst (r.map V.str))):pb f (upd a f o) (g++[u]) (rows++[r]) :=
 Paired.app (Paired.mapP h fun _ _ e=>⟨e.1,by rw[am e.1];exact S _ _ e.2⟩) (.cons ⟨i,by rw[am i];exact j⟩ .nil)
theorem oH(e f g:Zb)(a:List av):(bG e f g a).length=3+a.length:=by
 unfold bG bo;rw[aV,aq];rfl
theorem bO.split{a e f:Zb}{g:List av}(m:bO a e f g):bE (eW (bG a e f g)) "\n"=(bG a e f g).map ja++[("":Str)] :=
 AW fun r h w i=>(m.pl r h w i).nl
theorem bO.len{J0 a e:Zb}{f:List av}(m:bO J0 a e f):(eW (bG J0 a e f)).length<=2000000:=by
 have:=tF m.rows;have h:=oH J0 a e f;have:=m.few;omega
theorem tZ{a e f:Zb}{g:List av}{H:Hp}{h:Ze}(R:h_ H h (bG a e f g)):∃i j k l,h=i::j::k::l/\H i=some (.lst ((("asks":Str)::a).map V.str))/\H j=some (.lst ((("says":Str)::e).map V.str))/\H k=some (.lst ((("rooms":Str)::f).map V.str))/\h_ H l (g.map a_):=by
 cases R with
 |cons m R=>cases R with
  |cons n R=>cases R with
   |cons o R=>exact⟨_,_,_,_,rfl,m,n,o,R⟩
structure XC(K:Za)(Cx:Addr):Prop where
 cls:kE K Cx
 p:db K Cx "part"
 n:db K Cx "number"
 self:wB K (.ref Cx) (.ref Cx)=some true
structure Kb(Cx:Addr)(H:Hp)(a:Addr)(x y:V):Prop where
 at_:∃d,H a=some (.ext (ib a Cx (some d)))/\H d=some (.ext (iU d [("part",x),("number",y)]))
inductive om(Cx:Addr)(vs:List V)(H:Hp)(Q:VK)(E:XK):Prop
 |mk (a:Addr) (x y:V):(vs=[.ref a,x,y])->(H a=some (.ext (cX a Cx none)))->(∀d H',H' a=some (.ext (cX a Cx (some d)))->H' d=some (.ext (iU d [("part",x),("number",y)]))->d≠a->(∀b o,H b=some o->b≠a->H' b=some o)->Q .non H')->om Cx vs H Q E
theorem EX{K:Za}{Cx:Addr}(M:XC K Cx){i:List V}{H:Hp}{Q:VK}{E:XK}(h:om Cx i H Q E):pZ K (bJ Q) (start qQ i) H:=by
  obtain⟨a,x,y,rfl,j,k⟩:=h;refine⟨_,rfl,_,rfl,_,rfl,a,Cx,none,[x,y],rfl,j,M.cls,(by show 2<=ao;decide),?_⟩;refine⟨_,rfl,_,rfl,a,Cx,rfl,M.cls,M.p,.inl ⟨j,fun d l f=>?_⟩⟩;have m:upd (upd H d (.ext (iU d [("part",x)]))) a (.ext (cX a Cx (some d))) a=some (.ext (cX a Cx (some d))):=aa;have q:upd (upd H d (.ext (iU d [("part",x)]))) a (.ext (cX a Cx (some d))) d=some (.ext (iU d [("part",x)])):=by rw[am f,aa]
  refine⟨_,rfl,_,rfl,a,Cx,rfl,M.cls,M.n,.inr ⟨d,_,m,q,(by show 1<1000;decide),?_⟩⟩;refine k d _ (by rw[am f.symm];exact m) ?_ f fun b o e r=>?_
  · rw[aa]
    have:c_ ("number":Str) y [(("part":Str),x)]=[(("part":Str),x),(("number":Str),y)]:=by
      have ne:(("part":Str)==("number":Str))=false:=by decide +kernel
      simp only[c_,ne]
      first | rfl | (have g:¬(("part":Str)=("number":Str)):=by decide +kernel
                     simp[g])
    rw[this]
  · rw[am (fun z=>by rw[z,l]at e;cases e),am r,am (fun z=>by rw[z,l]at e;cases e)]
    exact e
inductive dw(Cx:Addr)(vs:List V)(H:Hp)(Q:VK)(E:XK):Prop
 |mk (x y:V):(vs=[x,y])->(((y=.non/\Q .non H)∨(∃n:Int,y=.int n/\∀a H',Kb Cx H' a x y->ae H H'->E (.ref Cx) (some a) H')))->dw Cx vs H Q E
theorem vi{Cx:Addr}{i:List V}{H:Hp}{Q:VK}{E:XK}(h:dw Cx i H Q E):xf Cx (om Cx) E (bJ Q) (start Ag i) H:=by
 obtain⟨x,y,rfl,h⟩:=h;refine⟨_,rfl,_,rfl,?_⟩;rcases h with⟨rfl,k⟩|⟨n,rfl,k⟩
 ·have e:(!decide (V.non=V.non))=false:=by rw[zzr1 rfl];rfl
  rw[e];exact bC k
 ·have e:(!decide (V.int n=V.non))=true:=by rw[zzr0 (by intro z;cases z)];rfl
  rw[e];refine bI ?_;refine⟨_,rfl,_,rfl,(by show 2<=ao;decide),fun a j=>?_⟩;refine⟨a,x,.int n,rfl,aa,fun d r l m p q=>⟨rfl,some d,l,k a _ ⟨d,aa,by rw[am p];exact m⟩ fun b o f=>?_⟩⟩;have g:b≠a:=fun z=>by rw[z,j]at f;cases f
  rw[am g];exact q b o (by rw[am g];exact f) g
def eI(J0 J4 J5:Zb)(ds:List av):Option (Str×Nat) :=
 match aw J0 4 []with
 |some n=>some ("asks",n)
 |none=>match aw J4 4 J0 with
  |some n=>some ("says",n)
  |none=>match aw J5 150 []with
   |some n=>some ("rooms",n)
   |none=>(u8 J5 (bB J0 J4) 0 [] ds).map fun n=>("doors",n)
structure GF(J0 J4 J5:Zb)(ds:List av):Prop where
 a:J0.length<=100
 s:J4.length<=100
 r:J5.length<=900
 d:ds.length<=9000
 wa:∀w∈J0,w.length<=1000
 ws:∀w∈J4,w.length<=1000
 wr:∀w∈J5,w.length<=1000
inductive eL(Cx:Addr)(vs:List V)(H:Hp)(Q:VK)(E:XK):Prop
 |mk (l1 l2 l3 l4:Addr) (ts:Ze) (J0 J4 J5:Zb) (ds:List av):(vs=[.ref l1,.ref l2,.ref l3,.ref l4])->(Lists H l1 l2 l3 l4 ts J0 J4 J5 ds)->(GF J0 J4 J5 ds)->((eI J0 J4 J5 ds=none->∀H',ae H H'->Q .non H'))->(∀p n,eI J0 J4 J5 ds=some (p,n)->∀a H',Kb Cx H' a (.str p) (.int (n:Nat))->ae H H'->E (.ref Cx) (some a) H')->eL Cx vs H Q E
theorem uh{Cx:Addr}{x:Str}{o:Option Nat}{H:Hp}{Q:VK}{E:XK}(f:o=none->Q .non H)(g:∀n,o=some n->∀a e,Kb Cx e a (.str x) (.int (n:Nat))->ae H e->E (.ref Cx) (some a) e):
  Bw (dw Cx) E [.str x,oV o] H Q E0:=by
 cases o with
 |none=>exact⟨_,_,rfl,.inl ⟨rfl,f rfl⟩⟩
 |some n=>exact⟨_,_,rfl,.inr ⟨n,rfl,g n rfl⟩⟩
theorem t7{K:Za}{Cx:Addr}{B:List V}{H:Hp}{Q:VK}{E:XK}(h:eL Cx B H Q E):
  w_ K (Bw (dw Cx) E) (sp_first_wrong_door K) (sp_door_signs K) (sp_first_wrong_name K) (bJ Q) (start yL B) H:=by
 obtain⟨t,C,D,J,M,l,u,G,N,rfl,L,F,O,m⟩:=h;have z1:=F.a;have z2:=F.s;have z3:=F.r;have z4:=F.d;refine⟨_,rfl,(by show 0<=ao;decide),fun e j=>⟨t,e,l,[],4,rfl,aA.of (kp L.a1 j),aA.of aa,by simp;omega,F.wa,fun H1 T=>?_⟩⟩;have o:=(ae.new j).trans T;refine uh (fun i=>?_) fun n i a f g s=>m "asks" n (by unfold eI;rw[i]) a f g (o.trans s);refine⟨_,rfl,_,rfl,C,t,u,l,4,rfl,aA.of (o _ _ L.a2),aA.of (o _ _ L.a1),by omega,F.ws,fun H2 U=>?_⟩;have v:=o.trans U;refine uh (fun k=>?_) fun n k a f g s=>m "says" n (by unfold eI;rw[i,k]) a f g (v.trans s);refine⟨_,rfl,(by show 0<=ao;decide),fun e j=>⟨D,e,G,[],150,rfl,aA.of (kp (v _ _ L.a3) j),aA.of aa,by simp;omega,F.wr,fun H3 Y=>?_⟩⟩;have p:=(v.trans (ae.new j)).trans Y;refine uh (fun q=>?_) fun n q a f g s=>m "rooms" n (by unfold eI;rw[i,k,q]) a f g (p.trans s);refine⟨_,rfl,_,rfl,_,rfl,_,rfl,t,C,l,u,rfl,p _ _ L.a1,p _ _ L.a2,by omega,by omega,fun sl xs H4 hx s4 w=>?_⟩;have x:=p.trans s4;have y:=L.same x;refine⟨J,D,sl,M,N,G,xs,bB l u,rfl,y.a4,y.ds,y.a3,by omega,w,hx,by omega,fun H5 I=>?_⟩;refine uh (fun z=>O (by unfold eI;rw[i,k,q,z];rfl) H5 (x.trans I)) fun n z a f g s=>m "doors" n (by unfold eI;rw[i,k,q,z];rfl) a f g ((x.trans I).trans s)
def qi(J0 J4 J5:Zb)(ds:List av):List DT:=[.s (J0.map bx),.s (J4.map bx),.s (J5.map bx),.s (ds.map lK)]
theorem yo(e f g:Zb)(a:List av):DT.depths (qi e f g a)<=3:=by
 have h:DT.depths (a.map lK)<=2:=by
  induction a with
  |nil=>exact cf _
  |cons x xs i=>rw[aS];show max (DT.depth (lK x)) (DT.depths _)<=2;rw[yq];omega
 unfold qi;show max (DT.depths (e.map bx)+1) (max (DT.depths (f.map bx)+1) (max (DT.depths (g.map bx)+1) (max (DT.depths (a.map lK)+1) 0)))<=3;rw[bZ,bZ,bZ];omega
abbrev abc:Str:="abcdefghijklmnopqrstuvwxyz"
inductive gp (vs:List V)(H:Hp)(Q:VK)(E:XK):Prop
 |mk (u:Unit):(vs=[])->(Q (.str abc) H)->gp  vs H Q E
theorem A2{K:Za}{a:List V}{H:Hp}{Q:VK}{E:XK}(h:gp a H Q E):va K (bJ Q) (start vt a) H:=by
 obtain⟨_,rfl,k⟩:=h;exact k
theorem Hw{w:Str}:w.length=0↔w=("":Str):=by
 constructor
 ·intro h;refine sv ?_;rw[aZ]at h;rw[List.length_eq_zero_iff.mp h]
  rfl
 ·intro h;rw[h];decide +kernel
inductive oA (vs:List V)(H:Hp)(Q:VK)(E:XK):Prop
 |mk (w:Str):(vs=[.str w])->(w.length<=1000)->(∀H',ae H H'->Q (.bl (fy w)) H')->oA  vs H Q E
theorem Fd{K:Za}{a:List V}{H:Hp}{Q:VK}{E:XK}(h:oA a H Q E):vc K gp (bJ Q) (start vw a) H:=by
 obtain⟨w,rfl,s,k⟩:=h;refine⟨_,rfl,.inr ⟨w,rfl,c6 (aU s),_,_,rfl,rfl,_,rfl,?_⟩⟩;refine dz (fun n=>?_) (fun n=>?_)
 ·have m:(!decide (w=("":Str)))=true:=by
   have:=of_decide_eq_true n;rw[zzr0 (fun z=>by rw[<-Hw]at z;omega)]
   rfl
  refine⟨_,_,rfl,rfl,_,rfl,?_⟩;refine dz (fun p=>?_) (fun p=>?_)
  ·refine⟨_,rfl,w,rfl,fun l r=>?_⟩;refine Aa (fun i a j=>a=((w.cps.toList.take i).map fun c=>V.bl (decide (c∈abc.cps.toList)))/\ae H j/\j l=some (.lst a))
    ⟨rfl,ae.new r,aa⟩ (fun i a j _ h=>h.2.2) ?_ ?_
   ·rintro a j ⟨rfl,q,f⟩;refine⟨l,w.cps.toList.map fun c=>decide (c∈abc.cps.toList),rfl,aA.of ?_,?_⟩
    ·rw[f,eZ];have:w.cps.toList.take w.cps.size=w.cps.toList:=by
      rw[pB];simp
     rw[this]
     rfl
    ·have:=k j q;have g:decide (w.length<=8)=true:=zzr1 (by have:=of_decide_eq_true p;omega);unfold fy at this;rw[m,g,kQ,kQ]at this;rw[mP];exact this
   ·rintro i a j c t hi ⟨rfl,q,f⟩;refine gN (pO ?_);refine⟨_,rfl,(),rfl,c,_,rfl,rfl,f,?_,uf hi ⟨?_,?_,aa⟩⟩
    ·rw[aq,aL];have:w.length=w.cps.toList.length:=aZ w;exact aU (by omega)
    ·rw[take_snoc (by rw[<-t];simp),aK]
     rfl
    ·intro b o e;rw[am (ah e r)];exact q b o e
  ·have:=k H (ae.refl H);have g:decide (w.length<=8)=false:=zzr0 (fun z=>p (zzr1 (by omega)));unfold fy at this;rw[m,g,kQ,y0]at this;exact this
 ·have:=k H (ae.refl H);have m:(!decide (w=("":Str)))=false:=by
   rw[zzr1 (Hw.mp (by
    have:¬((1:Int)<=(w.length:Nat)):=fun z=>n (zzr1 z);omega))]
   rfl
  unfold fy at this;rw[m,y0]at this;refine⟨_,rfl,?_⟩;exact bC this
inductive sw (vs:List V)(H:Hp)(Q:VK)(E:XK):Prop
 |mk (p c:Addr):(vs=[.ref p])->(fA H p c)->(∀(w:Str) (H':Hp),w.length<=30->fA H' p c->cV p H H'->Q (.str w) H')->sw  vs H Q E
abbrev Ho:Str:=" !\"#$&'()*+,-./0123456789:;<=>?@ABCDEFGHIJKLMNOPQRSTUVWXYZ[\\]^_{|}~\n\t"
theorem l7:Ho.length=69:=by decide +kernel
theorem G6{K:Za}{v:List V}{H:Hp}{Q:VK}{E:XK}(h:sw v H Q E):AC K cY gp (bJ Q) (start BK v) H:=by
 obtain⟨p,c,rfl,hp,k⟩:=h;refine⟨_,rfl,cp hp (by decide) (by decide) fun r H1 h0 w ab I=>⟨_,_,rfl,rfl,?_⟩⟩;refine⟨_,rfl,cp ab (by decide) (by decide) fun r2 H2 a0 a1 q J=>?_⟩;have L:∀(f:Nat) (D:Hp),f<=30->fA D p c->cV p H D->(au (aN (pf K "str" (vT K) (tC (.str "")) (ay (dR 1 [0] (rG (aF V1)) U0 (jx) (aI xL (aW gp bS) (aW cY (ba V1 (tC (.int 26)))))) bS)) U2)
  (au (cu (xB (bc (aI Hd V2 (tC (.str "")))) (bc (aI mw (aW cY (ba V0 (tC (.int 9)))) (tC (.int 0))))) (au (aN (tC (.str Ho)) U3)
  (au (aN (aW cY (ba V0 V1)) U4)
  (aN (aI fL (aI fL (nN xK V2 (bM) (cE V4)) (aI xL V3 (aW cY (ba V0 (du (cD K) (aF V3)))))) (nN xK V2 (cE (aI eM V4 (tC (.int 1)))) (bM))) U2))) (br))
  (bf V2))) (bJ Q) [some (.ref p),some (.int f),none,none,none] D:=by
  intro f D hm t s;refine⟨rfl,_,rfl,f,rfl,by omega,by omega,fun l y=>?_⟩;have M:H l=none:=by
   obtain⟨op,ai⟩:=t.pen;exact s.free ai y
  refine uG (lo:=0) (n:=((f:Int)).toNat) (fun i v H'=>∃o:List Nat,v=o.map (fun c=>V.str ⟨#[c]⟩)/\o.length=i/\fA H' p c/\cV p D H'/\H' l=some (.lst v))
   ⟨[],rfl,rfl,t.ex (ae.new y),cV.new y,aa⟩ (fun i v H' _ zq=>by obtain⟨_,_,_,_,_,h⟩:=zq;exact h) ?_ ?_
  rotate_left
  ·rintro i v H' hi ⟨o,rfl,g,aj,ak,al⟩;have u:=hp.nep M;have an:=hp.nec M;refine gN (pO ?_);refine⟨(),rfl,_,rfl,cp aj (by decide) (by decide) fun r H2 h0 w q B=>⟨_,r,_,rfl,rfl,yH,BH h0 w,?_⟩⟩;have ap:=B l _ al u.symm;refine⟨ap,by rw[aq,g];exact aU (by omega),uf hi ⟨o++[97+r.toNat],by rw[aK];rfl,by rw[aV,g];rfl,q.upd u an,?_,aa⟩⟩;intro b o' e nb;rw[am (ah e y)];exact B b o' (ak b o' e nb) nb
  ·rintro v H4 ⟨o,rfl,g,N,O,as⟩;refine⟨"",l,o.map fun c=>(⟨#[c]⟩:Str),rfl,rfl,aA.of (by rw[as,eZ];rfl),?_,?_⟩
   ·have e0:("":Str).length=0:=by decide +kernel
    rw[e0,Nat.mul_zero,eZ];have:∀o:List Nat,(o.map ((fun x=>Str.length x) ∘ fun c=>(⟨#[c]⟩:Str))).sum=o.length:=by
     intro o
     induction o with
     |nil=>rfl
     |cons c o ih=>rw[aS,c8,ih,bP];show 1+_=_;omega
    rw[this,g];omega
   have hb:=uu o;generalize eg "" (o.map fun c=>(⟨#[c]⟩:Str))=i9 at hb ⊢;have wl:i9.length=f:=by rw[aZ,hb,g];omega
   have T:=s.trans O;refine⟨_,rfl,rfl,_,rfl,?_⟩;have done:∀H',fA H' p c->cV p H H'->Q (.str i9) H':=fun H' w U=>k i9 H' (by omega) w U;have ed:(!decide (V.str i9=V.str ("":Str)))=!decide (i9=("":Str)):=by
    congr 1;by_cases e:i9=("":Str)
    ·rw[zzr1 e,zzr1 (by rw[e])]
    ·rw[zzr0 e,zzr0 (fun z=>e (by injection z))]
   rw[ed];refine dz (fun w=>?_) (fun w=>?_)
   ·have n0:0<f:=by
     rw[<-wl];have:¬(i9=("":Str)):=fun z=>by rw[zzr1 z]at w;cases w
     have:=mt Hw.mp this;omega
    refine⟨_,rfl,cp N (by decide) (by decide) fun G H5 b0 b1 Y aC=>⟨rfl,_,rfl,?_⟩⟩;have C:=T.trans aC;refine dz (fun U=>?_) (fun U=>?_)
    ·refine⟨_,rfl,_,rfl,cp Y (by omega) (by omega) fun at_ H6 c0 c1 aH aT=>?_⟩;obtain⟨a,rfl⟩:=fO c0;have wz:i9.length<=ao:=c6 (aU (by omega));refine⟨_,rfl,_,rfl,_,rfl,i9,rfl,wz,?_⟩;refine⟨_,rfl,_,rfl,_,rfl,.inr ⟨Ho,rfl,(by rw[l7];decide),cp aH (by rw[l7];decide) (by rw[l7];decide) fun r4 H7 d0 d1 aX a4=>?_⟩⟩;obtain⟨j,rfl⟩:=fO d0;rw[l7]at d1;obtain⟨ch,a5⟩:∃ch,Ho.cps.toList[j]?=some ch:=⟨_,ef (by rw[<-aZ,l7];omega)⟩;refine⟨_,_,ch,rfl,rfl,(by rw[l7];decide),bW a5,?_⟩;have la:(qE i9 none (some (a:Int))).length=min a f:=by rw[aZ,BB,aL,<-aZ,wl]
     have l1:(⟨#[ch]⟩:Str).length=1:=rfl;refine⟨_,_,rfl,rfl,(by rw[la,l1];exact c6 (aU (by omega))),?_⟩;refine⟨_,rfl,_,rfl,_,_,rfl,rfl,_,rfl,i9,rfl,wz,?_⟩;have lb:(qE i9 (some ((a:Int)+1)) none).length=f-(a+1):=by
      have:=z7 i9 (a+1);have e:(((a+1:Nat)):Int)=(a:Int)+1:=by omega
      rw[e]at this;rw[aZ,this,fc,<-aZ,wl]
     refine⟨_,_,rfl,rfl,(by rw[fK,la,l1,lb];exact c6 (aU (by omega))),?_⟩;refine⟨_,rfl,k _ H7 (by rw[fK,fK,la,l1,lb];omega) aX ((C.trans aT).trans a4)⟩
    ·exact⟨_,rfl,done H5 Y C⟩
   ·exact bC ⟨_,rfl,done H4 N T⟩
 refine⟨rfl,_,rfl,?_⟩;obtain⟨m,rfl⟩:=fO h0;refine dz (fun U=>?_) (fun U=>?_)
 ·refine⟨(by show 4<=ao;decide),fun l y=>⟨_,rfl,cp (q.ex (ae.new y)) (by decide) (by decide) fun G D c0 c1 t s=>?_⟩⟩;have u:=q.nep y;have a6:=s l _ aa u.symm;obtain⟨n,en,hn⟩:∃n:Nat,yF [V.int 0,.int 9,.int 10,.int 30] G=some (.int n)/\n<=30:=by
   have:G=0∨G=1∨G=2∨G=3:=by omega
   rcases this with rfl|rfl|rfl|rfl
   ·exact⟨0,rfl,by decide⟩
   ·exact⟨9,rfl,by decide⟩
   ·exact⟨10,rfl,by decide⟩
   ·exact⟨30,rfl,by decide⟩
  exact⟨l,_,G,_,rfl,rfl,aA.of a6,en,L n D hn t (((I.trans J).trans (cV.new y)).trans s)⟩
 ·have:=L (1+m) H2 (by omega) q (I.trans J);have e:((1:Int)+(m:Int))=(((1+m:Nat)):Int):=by omega
  rw[<-e]at this;exact this
inductive xD(K:Za)(vs:List V)(H:Hp)(Q:VK)(E:XK):Prop
 |mk (l t:Addr) (names taken:Zb) (most:Nat):(vs=[.ref l,.int most,.ref t])->(H l=some (.lst (names.map V.str)))->(H t=some (.lst (taken.map V.str)))->(names.length<=900)->(most<=900)->((∀w∈names,w.length<=1000))->(∀H',ae H H'->Q (oV (aw names most taken)) H')->xD K vs H Q E
theorem lE{w:Str}{a:Zb}:decide (bx w∈a.map bx)=decide (w∈a):=by
 by_cases h:w∈a
 ·rw[zzr1 h,zzr1 (pk h)]
 ·rw[zzr0 h,zzr0 fun z=>?_];obtain⟨x,hx,e⟩:=aR.mp z;rw[lY e]at hx;exact h hx
theorem Jd{K:Za}{vs:List V}{H:Hp}{Q:VK}{E:XK}(h:xD K vs H Q E):nY K oA (bJ Q) (start pc vs) H:=by
 obtain⟨l,t,names,taken,a,rfl,D,ht,hz,hm,hw,k⟩:=h;refine⟨_,rfl,(by show 0<=ao;decide),fun q M=>?_⟩;have p:ae H (upd H q (.lst [])):=ae.new M;refine⟨.s (names.map bx),.s [],(by unfold kF;exact⟨l,_,rfl,aA.of (p _ _ D),f6 _⟩),(by unfold kF;exact⟨q,_,rfl,aA.of aa,by unfold DIns;rfl⟩),?_,?_,_,rfl,?_⟩
 ·show DT.depths _+1<=8;rw[bZ];decide
 ·decide
 generalize upd H q (.lst [])=G at p ⊢;by_cases N:names=[]
 ·subst N;have e:decide (DT.s (([]:Zb).map bx)=DT.s [])=true:=zzr1 rfl;rw[e];exact bI (k G p)
 rw[zzr0 (fun z=>N (by
  injection z with z;exact mM.mp z))]
 refine bC ?_;have hk:∀H',ae H H'->Q (oV (wc a 0 taken names)) H':=by
  unfold aw at k;rw[if_neg N]at k;exact k
 refine⟨_,rfl,_,rfl,_,rfl,l,_,rfl,aA.of (p _ _ D),fun r O=>?_⟩;have m:ae H (upd G r (.lst (dq (names.map V.str) none (some (a:Int))))):=p.trans (ae.new O);have T:upd G r (.lst (dq (names.map V.str) none (some (a:Int)))) r=some (.lst ((names.take a).map V.str)):=by rw[aa,sM]
 generalize upd G r (.lst (dq (names.map V.str) none (some (a:Int))))=H2 at m T ⊢;refine⟨r,rfl,⟨_,aA.of T⟩,?_⟩;refine fz (xs:=(names.take a).map V.str) (fun i σ H'=>∃x y,σ=[some (.ref l),some (.int a),some (.ref t),x,y]/\ae H2 H'/\wc a i (taken++names.take i) (names.drop i)=wc a 0 taken names)
  ⟨_,_,rfl,ae.refl _,by rw[List.take_zero,dA,kT]⟩ (fun i σ H' _ zq=>by obtain⟨_,_,_,n,_⟩:=zq;exact aA.of (n _ _ T)) ?_ ?_
 ·rintro i x σ H' q hi ⟨x4,x5,rfl,n,hf⟩ M;obtain⟨w,f,rfl⟩:=dh hi;have g:i<a/\names[i]?=some w:=by
   rw[List.getElem?_take]at f;split at f
   ·exact⟨by assumption,f⟩
   ·cases f
  have U:i<names.length:=(dg.mp g.2).1;have ed:names.drop i=w::names.drop (i+1):=by
   rw[j4 U];congr 1;exact(dg.mp g.2).2
  rw[ed]at hf;have Y:ae H2 (upd H' q (.tup [.int i,.str w])):=n.trans (ae.new M);have ab:w.length<=1000:=hw w (ca g.2);refine⟨q,_,rfl,cq.of aa,rfl,_,_,rfl,_,_,rfl,rfl,?_⟩;generalize upd H' q (.tup [.int i,.str w])=H3 at Y ⊢;have j:∀H',ae H3 H'->(i=a∨w∈taken++names.take i∨fy w=false)->Q (.int i) H':=fun H' s hb=>by
   have:=hk H' ((m.trans Y).trans s);rw[<-hf]at this;unfold wc at this;rw[if_pos hb]at this;exact this
  refine⟨_,rfl,w,rfl,ab,fun u s4=>⟨_,rfl,?_⟩⟩;cases nb:fy w with
  |false=>exact bI (bI ⟨_,rfl,j u s4 (.inr (.inr nb))⟩)
  |true =>
   refine bC ?_;have S4:=Y.trans s4;refine⟨_,rfl,_,rfl,_,rfl,_,rfl,l,_,rfl,aA.of (S4 _ _ (m _ _ D)),fun v ai=>?_⟩;have e5:upd u v (.lst (dq (names.map V.str) none (some (i:Int)))) v=some (.lst ((names.take i).map V.str)):=by rw[aa,sM]
   have I:ae u (upd u v (.lst (dq (names.map V.str) none (some (i:Int))))):=ae.new ai;generalize upd u v (.lst (dq (names.map V.str) none (some (i:Int))))=H5 at e5 I ⊢;refine⟨bx w,(names.take i).map bx,v,_,jm w,rfl,.inl (aA.of e5),f6 _,cf _,by rw[bZ];decide,_,rfl,?_⟩;rw[if_neg (by decide),lE];have B:=s4.trans I;by_cases J:w∈names.take i
   ·rw[zzr1 J];exact bI (bI ⟨_,rfl,j H5 B (.inr (.inl (dI _ J)))⟩)
   rw[zzr0 J];refine bC ?_;refine⟨_,rfl,_,rfl,bx w,taken.map bx,t,_,jm w,rfl,.inl (aA.of ((S4.trans I) _ _ (m _ _ ht))),f6 _,cf _,by rw[bZ];decide,_,rfl,?_⟩;rw[if_neg (by decide),lE];by_cases L:w∈taken
   ·rw[zzr1 L];exact bI ⟨_,rfl,j H5 B (.inr (.inl (cL _ L)))⟩
   rw[zzr0 L];refine bC ⟨_,_,rfl,S4.trans I,?_⟩;rw[<-hf];have aj:¬(i=a∨w∈taken++names.take i∨fy w=false):=by
    rintro(z|z|z)
    ·omega
    ·exact(bu.mp z).elim L J
    ·rw[nb]at z;cases z
   conv=>rhs;unfold wc
   rw[if_neg aj,take_snoc g.2,dU]
 ·rintro σ H' ⟨x,y,rfl,n,hf⟩;rw[aq,aL]at hf;have C:∀o,wc a 0 taken names=o->Q (oV o) H':=fun o e=>by
   have:=hk H' (m.trans n);rw[e]at this;exact this
  refine⟨_,rfl,.inl ⟨l,_,rfl,.inl (aA.of ((m.trans n) _ _ D)),_,rfl,_,_,rfl,rfl,_,rfl,?_⟩⟩;rw[aq];by_cases c:a<names.length
  ·rw[zzr1 (by omega)];refine bI ⟨_,rfl,C (some a) ?_⟩;have em:min a names.length=a:=by omega
   rw[em]at hf;rw[<-hf,j4 c];unfold wc;rw[if_pos (.inl rfl)]
  ·rw[zzr0 (by omega)];refine bC ?_;refine C none ?_;have em:min a names.length=names.length:=by omega
   rw[em,kR]at hf;rw[<-hf]
   rfl
theorem Lists.dr{K:Za}{H:Hp}{r a e f g:Addr}{m:Ze}{i j k:Zb}{l:List av}(L:Lists H a e f g m i j k l)(h:H r=some (.lst [.ref a,.ref e,.ref f,.ref g])):DR K H (.s (qi i j k l)) (.ref r):=by
 unfold DR;refine⟨r,_,rfl,h,?_⟩;unfold qi;unfold DRs;refine⟨_,_,rfl,by unfold DR;exact⟨a,_,rfl,L.a1,jS _⟩,?_⟩;unfold DRs;refine⟨_,_,rfl,by unfold DR;exact⟨e,_,rfl,L.a2,jS _⟩,?_⟩;unfold DRs;refine⟨_,_,rfl,by unfold DR;exact⟨f,_,rfl,L.a3,jS _⟩,?_⟩;unfold DRs;refine⟨_,_,rfl,by unfold DR;exact⟨g,_,rfl,L.a4,qC L.ds⟩,?_⟩;unfold DRs
 rfl
theorem IY:∀a:List Str,DT.sms (a.map bx)=true
 |[]=>rfl
 |w::a=>by
  rw[aS];show(DT.sm (bx w) && DT.sms (a.map bx))=true;rw[IY a];rfl
theorem smS{a:Zb}(h:a.length<=1000000):DT.sm (.s (a.map bx))=true:=by
 show(decide ((a.map bx).length<=1000000) && DT.sms (a.map bx))=true;rw[IY,aq,zzr1 h];rfl
theorem smG{a:Zb}(h:a.length<=1000000):DT.sm (.t (a.map bx))=true:=by
 show(decide ((a.map bx).length<=1000000) && DT.sms (a.map bx))=true;rw[IY,aq,zzr1 h];rfl
theorem Kp:∀{e:List av},(∀d∈e,d.sg.length<=1000000)->DT.sms (e.map lK)=true
 |[],_=>rfl
 |d::e,h=>by
  rw[aS];show(DT.sm (lK d) && DT.sms (e.map lK))=true;rw[Kp fun x hx=>h x (bQ _ hx)];have:DT.sm (lK d)=true:=by
   show(decide (3<=1000000) && (DT.sm (bx d.a) && (DT.sm (.t (d.sg.map bx)) && (DT.sm (bx d.b) && true))))=true;rw[smG (h d bR)];rfl
  rw[this];rfl
theorem EW{f h i:Zb}{e:List av}(F:GF f h i e)(g:∀d∈e,d.sg.length<=1000000):DT.sm (.s (qi f h i e))=true:=by
 have j:=F.a;have k:=F.s;have l:=F.r;have m:=F.d;show(decide (4<=1000000) && (DT.sm (.s (f.map bx)) && (DT.sm (.s (h.map bx)) && (DT.sm (.s (i.map bx)) && (DT.sm (.s (e.map lK)) && true)))))=true;rw[smS (by omega),smS (by omega),smS (by omega)];have:DT.sm (.s (e.map lK))=true:=by
  show(decide ((e.map lK).length<=1000000) && DT.sms (e.map lK))=true;rw[Kp g,aq,zzr1 (by omega)];rfl
 rw[this];rfl
theorem FP{w:Str}(h:fy w=true):jB w:=by
 unfold fy at h;rw[iF,iF]at h;obtain⟨a,f,j⟩:=h;refine⟨?_,of_decide_eq_true f,fun c k=>?_⟩
 ·rcases Nat.eq_zero_or_pos w.length with z|z
  ·rw[zzr1 (Hw.mp z)]at a;cases a
  ·exact z
 ·have:=of_decide_eq_true (List.all_eq_true.mp j c k);obtain⟨i,hi,e⟩:=List.mem_iff_getElem.mp this;have l:("abcdefghijklmnopqrstuvwxyz":Str).cps.toList.length=26:=by decide +kernel
  have g:=yI i (by omega);rw[ef hi,e]at g;have:=d4 g;rw[this];exact⟨by omega,by omega⟩
theorem CU:∀{f ahead:Zb}{a i:Nat},wc a i ahead f=none->i<=a->(i+f.length<=a)/\(∀w∈f,w∉ahead/\fy w=true)/\f.Nodup
 |[],ahead,a,i,_,hi=>⟨hi,(fun _ h=>nomatch h),j6⟩
 |n::f,ahead,a,i,h,hi=>by
  unfold wc at h;split at h
  ·cases h
  ·rename_i c;have o:i≠a:=fun z=>c (.inl z);have j:n∉ahead:=fun z=>c (.inr (.inl z));have k:fy n=true:=by
    cases q:fy n with
    |true=>rfl
    |false=>exact absurd (.inr (.inr q)) c
   obtain⟨p,g,l⟩:=CU h (by omega);refine⟨by rw[bP];omega,fun w m=>?_,?_⟩
   ·rcases bw.mp m with e|e
    ·rw[e];exact⟨j,k⟩
    ·exact⟨fun z=>(g w e).1 (cL _ z),(g w e).2⟩
   ·refine jw.mpr ⟨fun z=>(g n z).1 (by simp),l⟩
theorem fh{names taken:Zb}{a:Nat}(h:aw names a taken=none):names≠[]/\names.length<=a/\eT names/\∀w∈names,w∉taken:=by
 unfold aw at h;split at h
 ·cases h
 ·rename_i g;obtain⟨j,f,i⟩:=CU h (cf _);exact⟨g,by omega,⟨i,fun w e=>FP (f w e).2⟩,fun w e=>(f w e).1⟩
abbrev pnD(p:Str)(n:Nat):DT:=.t [bx p,.k (.inl (n:Int))]
theorem IC{K:Za}{H:Hp}{t:Addr}{p:Str}{n:Nat}(h:H t=some (.tup [.str p,.int (n:Nat)])):DR K H (pnD p n) (.ref t):=by
 unfold pnD DR;refine⟨t,_,rfl,cq.of h,?_⟩;unfold DRs;refine⟨_,_,rfl,by unfold bx DR;rfl,?_⟩;unfold DRs;refine⟨_,_,rfl,by unfold DR;rfl,?_⟩;unfold DRs
 rfl
theorem me{n j:Nat}(h:j<n):Es n (j:Int)=some j:=by
 unfold Es;rw[if_pos (Int.natCast_nonneg j),if_pos (by omega)]
 rfl
def gL(J5:Zb)(P:Str->Prop)(o:Option Nat):Prop:=(o=none/\∀r∈J5,¬P r)∨∃n r,o=some n/\J5[n]?=some r/\P r/\∀j x,j<n->J5[j]?=some x->¬P x
theorem gL.uniq{g:Zb}{P:Str->Prop}{o i:Option Nat}(h:gL g P o)(a:gL g P i):o=i:=by
 rcases h with⟨rfl,h⟩|⟨n,r,rfl,e,p,b⟩<;>rcases a with⟨rfl,a⟩|⟨f,j,rfl,k,m,q⟩
 ·rfl
 ·exact absurd m (h j (ca k))
 ·exact absurd p (a r (ca e))
 ·have:n=f:=by
   rcases Nat.lt_trichotomy n f with l|l|l
   ·exact absurd p (q n r l e)
   ·exact l
   ·exact absurd m (b f j l k)
  rw[this]
inductive cM (vs:List V)(H:Hp)(Q:VK)(E:XK):Prop
 |mk (l3 d:Addr) (J5:Zb) (ps:List (Str×Addr)) (P:Str->Prop):(vs=[.ref l3,.ref d])->(H l3=some (.lst (J5.map V.str)))->(H d=some (.dK (dX Sum.inr ps)))->(ps.map (·.1)=J5)->(J5.Nodup)->((∀x∈ps,∃L,H x.2=some (.dK (bU L))/\(x.1∈L↔P x.1)))->(∀o H',gL J5 P o->ae H H'->Q (oV o) H')->cM  vs H Q E
theorem mr{K:Za}{v:List V}{H:Hp}{Q:VK}{E:XK}(h:cM v H Q E):nZ K (bJ Q) (start pd v) H:=by
 obtain⟨B,d,C,J,P,rfl,D,M,g,q,N,k⟩:=h;refine⟨_,rfl,B,rfl,⟨_,aA.of D⟩,?_⟩;refine fz (xs:=C.map V.str) (fun i σ f=>∃x y,σ=[some (.ref B),some (.ref d),x,y]/\ae H f/\∀j x,j<i->C[j]?=some x->¬P x) ⟨_,_,rfl,ae.refl H,fun _ _ z=>absurd z (Nat.not_lt_zero _)⟩ (fun i σ f _ O=>by obtain⟨_,_,_,S,_⟩:=O;exact aA.of (S _ _ D)) ?_ ?_
 ·rintro i x σ f t hi ⟨x2,x3,rfl,S,p⟩ T;obtain⟨w,s,rfl⟩:=dh hi;refine⟨t,_,rfl,cq.of aa,rfl,_,_,rfl,_,_,rfl,rfl,?_⟩;have m:ae H (upd f t (.tup [.int i,.str w])):=S.trans (ae.new T);generalize upd f t (.tup [.int i,.str w])=U at m ⊢;have n:w∈J.map (·.1):=by rw[g];exact ca s
  obtain⟨⟨r,a⟩,o,Y⟩:=aR.mp n;obtain rfl:r=w:=Y;obtain⟨L,u,G⟩:=N _ o;refine⟨_,rfl,_,rfl,_,rfl,d,.ref a,rfl,.inl ⟨_,.inr r,.inl (m _ _ M),rfl,(fX kA (by rw[g];exact q) o).symm⟩,a,_,rfl,.inl ⟨_,.inr r,.inl (m _ _ u),rfl,rfl⟩,_,rfl,?_⟩;rw[jP];by_cases c:r∈L
  ·rw[zzr1 c];exact bI ⟨_,rfl,k (some i) U (.inr ⟨i,r,rfl,s,G.mp c,p⟩) m⟩
  ·rw[zzr0 c];refine bC ⟨_,_,rfl,m,fun j x l e=>?_⟩;rcases Nat.lt_or_ge j i with z|z
   ·exact p j x z e
   ·have:j=i:=by omega
    rw[this,s]at e;cases e;exact fun z=>c (G.mpr z)
 ·rintro σ f ⟨x,y,rfl,S,p⟩;refine k none f (.inl ⟨rfl,fun r hr=>?_⟩) S;obtain⟨j,I,e⟩:=List.mem_iff_getElem.mp hr;exact p j r (by rw[aq];exact I) (by rw[ef I,e])
structure gf(J0 J4 J5:Zb)(ds:List av):Prop where
 okA:eT J0
 okS:eT J4
 apart:∀w∈J4,w∉J0
 okR:eT J5
 asks0:J0≠[]
 says0:J4≠[]
 rooms0:J5≠[]
 asks4:J0.length<=4
 says4:J4.length<=4
 rooms26:J5.length<=150
 nodup:ds.Nodup
 good:∀d∈ds,GA J0 J4 J5 d
 few:ds.length<=2000
theorem gf.ok{J0 g f:Zb}{e:List av}(m:gf J0 g f e)(z:e.length<=1000)(h:∀r∈f,¬Reach e r r):bO J0 g f e :=
 ⟨m.okA,m.okS,m.apart,m.okR,m.asks0,m.says0,m.rooms0,m.asks4,m.says4,m.rooms26,m.nodup,m.good,z,fun r z=>by
  have:∀{b:Str},Reach e r b->r∈f:=fun{b} i=>by
   induction i with
   |one j=>exact(m.good _ j).a
   |step _ _ k=>exact k
  exact h r (this z) z⟩
theorem gf.few'{J0 a e:Zb}{f:List av}(m:gf J0 a e f):GF J0 a e f :=
 ⟨by have:=m.asks4;omega,by have:=m.says4;omega,by have:=m.rooms26;omega,by have:=m.few;omega,qk m.okA,qk m.okS,qk m.okR⟩
theorem gf.sg0{a f g:Zb}{ds:List av}(m:gf a f g ds){r:Str}:∀d∈cG ds r,d.sg≠[]:=by
 intro d h;have:=m.good d (iC.mp h).1;rcases this.sg with⟨w,_,e⟩|⟨w,_,e⟩|e<;>rw[e]<;>exact List.cons_ne_nil _ _
theorem gf.signs{J0 i f:Zb}{j:List av}(m:gf J0 i f j):∀d∈j,d.a∈f/\d.sg∈bB J0 i/\d.b∈f:=by
 intro d k;have g:=m.good d k;refine⟨g.a,?_,g.b⟩;unfold bB;rcases g.sg with⟨w,h,e⟩|⟨w,h,e⟩|e
 ·rw[e];exact cL _ (cL _ (aR.mpr ⟨w,h,rfl⟩))
 ·rw[e];exact cL _ (dI _ (aR.mpr ⟨w,h,rfl⟩))
 ·rw[e];exact dI _ (by simp[aJ])
theorem j8{f g h:Zb}{i:List av}(m:gf f g h i):eI f g h i=none:=by
 have j:aw f 4 []=none:=h9 m.asks0 m.asks4 m.okA.1 m.okA.2;have k:aw g 4 f=none:=h9 m.says0 m.says4 (by
  rw[fQ];exact⟨m.okA.1,m.okS.1,fun a l b n e=>m.apart b n (e▸l)⟩) m.okS.2
 have o:aw h 150 []=none:=h9 m.rooms0 m.rooms26 m.okR.1 m.okR.2;have p:u8 h (bB f g) 0 [] i=none:=zX i [] 0 (by have:=m.few;omega) m.nodup m.signs;unfold eI;rw[j,k,o,p]
 rfl
structure Al(C:Addr)(H:Hp)(x:Addr)(J0 J4 J5:Zb)(ds:List av):Prop where
 at_:∃(dx:Addr) (fs:List (Str×V)) (o1 o2 o3 o4 lv qu sg sl:Addr) (ts:Ze) (lps:List (Str×Addr)) (gps:List ((Str×List Str)×Addr)) (sps:List (Str×Addr)),
  H x=some (.ins C dx fs)/\lk "is_quiet" fs=none/\lk "goals" fs=none/\lk "led_from" fs=none/\lk "rooms" fs=none /\
  lk "own_asks" fs=some (.ref o1)/\lk "own_says" fs=some (.ref o2)/\lk "own_rooms" fs=some (.ref o3)/\lk "own_doors" fs=some (.ref o4) /\
  lk "leaving" fs=some (.ref lv)/\lk "quiet" fs=some (.ref qu)/\lk "sign_goals" fs=some (.ref sg)/\lk "still_led" fs=some (.ref sl) /\
  Lists H o1 o2 o3 o4 ts J0 J4 J5 ds /\
  lps.map (·.1)=J5/\H lv=some (.dK (dX Sum.inr lps))/\(∀x∈lps,∃us,H x.2=some (.lst (us.map V.ref))/\dE H us (cG ds x.1)) /\
  H qu=some (.dK (bU (J5.filter (lz ds))))/\iu H sg gps ds /\
  sps.map (·.1)=J5/\H sl=some (.dK (dX Sum.inr sps))/\(∀x∈sps,∃L,H x.2=some (.dK (bU L))/\L.Nodup/\∀w,w∈L↔Reach ds x.1 w)
 more:∃(dx:Addr) (fs:List (Str×V)),H x=some (.ins C dx fs)/\lk "asks" fs=none/\lk "says" fs=none/\lk "doors" fs=none/\lk "doors_from" fs=none
theorem Al.ok{C:Addr}{H:Hp}{x:Addr}{a e f:Zb}{g:List av}(b:Al C H x a e f g)(m:bO a e f g):ia C H x a e f g:=⟨b.at_,m,b.more⟩
inductive zv(C Cx:Addr)(vs:List V)(H:Hp)(Q:VK)(E:XK):Prop
 |mk (x dx l1 l2 l3 l4:Addr) (ts:Ze) (J0 J4 J5:Zb) (ds:List av):(vs=[.ref x,.ref l1,.ref l2,.ref l3,.ref l4])->(H x=some (.ins C dx []))->(Lists H l1 l2 l3 l4 ts J0 J4 J5 ds)->(gf J0 J4 J5 ds)->((∀H',gL J5 (fun r=>Reach ds r r) none->Al C H' x J0 J4 J5 ds->cV x H H'->Q .non H'))->(∀n a H',gL J5 (fun r=>Reach ds r r) (some n)->Kb Cx H' a (.str "still") (.int (n:Nat))->cV x H H'->E (.ref Cx) (some a) H')->zv C Cx vs H Q E
theorem Fh{K:Za}{C Cx:Addr}(M:MC K C){I:List V}{H:Hp}{Q:VK}{E:XK}(h:zv C Cx I H Q E):
  iI K (Bw (dw Cx) E) cM tT lp (sp_as_keys K) sp_has_asks_alone sp_doors_by_start (Bw (eL Cx) E) (bJ Q) (start iW I) H:=by
 obtain⟨x,N,l1,l2,l3,l4,ts,J0,J4,O,ds,rfl,hx,L,m,k,kx⟩:=h;have z3:=m.rooms26;have z4:=m.few;refine⟨_,rfl,_,rfl,_,rfl,_,rfl,l1,l2,l3,l4,ts,J0,J4,O,ds,rfl,L,m.few',fun _ H1 S1=>?_,fun p n e=>by rw[j8 m]at e;cases e⟩;have aC:=S1 _ _ hx;have L1:=L.same S1;have E1:cV x H H1:=ae.exB S1;refine⟨_,rfl,.inl ⟨l1,_,rfl,.inl (aA.of L1.a1),fun o1 aH=>⟨_,rfl,x,C,N,_,rfl,kp aC aH,M.cls,M.a1,(by show 0<1000;decide),?_⟩⟩⟩;obtain⟨H2,e2,aT,F2⟩:=zY "own_asks" (.ref o1) (kp (x:=.lst (J0.map V.str)) aC aH);rw[<-e2];have n1:o1≠x:=(ah aC aH).symm;have f1:=F2 _ _ aa n1;have E2:cV x H1 H2:=(cV.new aH).trans F2;have ch:=L1.exI aC E2;have dy:(c_ ("own_asks":Str) (.ref o1) []).length<=1:=gV _ _ _;clear e2 F2;refine⟨_,rfl,.inl ⟨l2,_,rfl,.inl (aA.of ch.a2),fun o2 aX=>⟨_,rfl,x,C,N,_,rfl,kp aT aX,M.cls,M.a2,by omega,?_⟩⟩⟩;obtain⟨H3,e3,a0,F3⟩:=zY "own_says" (.ref o2) (kp (x:=.lst (J4.map V.str)) aT aX);rw[<-e3];have n2:o2≠x:=(ah aT aX).symm;have f2:=F3 _ _ aa n2;have E3:cV x H2 H3:=(cV.new aX).trans F3;have L3:=ch.exI aT E3;have dN:=gV ("own_says":Str) (.ref o2) (c_ ("own_asks":Str) (.ref o1) []);clear e3 F3;refine⟨_,rfl,.inl ⟨l3,_,rfl,.inl (aA.of L3.a3),fun o3 a9=>⟨_,rfl,x,C,N,_,rfl,kp a0 a9,M.cls,M.a3,by omega,?_⟩⟩⟩;obtain⟨H4,e4,bd,F4⟩:=zY "own_rooms" (.ref o3) (kp (x:=.lst (O.map V.str)) a0 a9);rw[<-e4];have n3:o3≠x:=(ah a0 a9).symm;have f3:=F4 _ _ aa n3;have E4:cV x H3 H4:=(cV.new a9).trans F4;have L4:=L3.exI a0 E4;have dT:=gV ("own_rooms":Str) (.ref o3) (c_ ("own_says":Str) (.ref o2) (c_ ("own_asks":Str) (.ref o1) []));clear e4 F4;refine⟨_,rfl,.inl ⟨l4,_,rfl,.inl (aA.of L4.a4),fun o4 bi=>⟨_,rfl,x,C,N,_,rfl,kp bd bi,M.cls,M.a4,by omega,?_⟩⟩⟩;obtain⟨H5,e5,u,F5⟩:=zY "own_doors" (.ref o4) (kp (x:=.lst (ts.map V.ref)) bd bi);rw[<-e5];have n4:o4≠x:=(ah bd bi).symm;have f4:=F5 _ _ aa n4;have E5:cV x H4 H5:=(cV.new bi).trans F5;have L5:=L4.exI bd E5;generalize b2:c_ ("own_doors":Str) (.ref o4) (c_ ("own_rooms":Str) (.ref o3) (c_ ("own_says":Str) (.ref o2) (c_ ("own_asks":Str) (.ref o1) [])))=v at u;have dV:v.length<=4:=by
  rw[<-b2];have:=gV ("own_doors":Str) (.ref o4) (c_ ("own_rooms":Str) (.ref o3) (c_ ("own_says":Str) (.ref o2) (c_ ("own_asks":Str) (.ref o1) [])));omega
 clear e5 F5;refine⟨_,rfl,_,rfl,l3,l4,ts,O,ds,rfl,L5.a3,L5.a4,L5.ds,m.okR.1,by omega,by omega,fun d hd=>(m.good d hd).a,fun lv bl d3 aj ak b3 S6=>⟨_,rfl,x,C,N,v,rfl,S6 _ _ u,M.cls,M.a5,by omega,?_⟩⟩;obtain⟨H6,e6,B,F6⟩:=zY "leaving" (.ref lv) (S6 _ _ u);rw[<-e6];have E6:cV x H5 H6:=(ae.exB S6).trans F6;have L6:=L5.exI u E6;have b4:=F6 _ _ ak (FO (S6 _ _ u) ak);have ci:∀y∈bl,∃G,H6 y.2=some (.lst (G.map V.ref))/\dE H6 G (cG ds y.1):=fun y hy=>by
  obtain⟨G,T,g2⟩:=b3 y hy;exact⟨G,F6 _ _ T (cV.neI (S6 _ _ u) T),g2.kt (F6.ktI (S6 _ _ u))⟩
 have c0:(bl.map (·.1)).Nodup:=by rw[aj];exact m.okR.1
 have d0:=gV ("leaving":Str) (.ref lv) v;have c1:lk "leaving" (c_ ("leaving":Str) (.ref lv) v)=some (.ref lv):=by
  show jd _ _=_;rw[eO,if_pos rfl]
 clear e6 F6 ak b3;refine⟨_,rfl,l3,rfl,⟨_,aA.of L6.a3⟩,fun f hf=>?_⟩;refine cU (xs:=O.map V.str) (fun i I U=>I=((O.take i).filter (lz ds)).map V.str/\ae H6 U/\U f=some (.lst I)) ⟨rfl,ae.new hf,aa⟩ (fun i I U _ zq=>by obtain⟨_,S,h'⟩:=zq;exact⟨h',aA.of (S _ _ L6.a3)⟩) ?_ ?_;rotate_left
 ·rintro i I U x' b5 hi ⟨rfl,S,f'⟩;obtain⟨r,hr,rfl⟩:=dh b5;obtain⟨⟨r',a⟩,ck,er⟩:=aR.mp (show r∈bl.map (·.1) by rw[aj];exact ca hr);obtain rfl:r'=r:=er;obtain⟨G,c2,c3⟩:=ci _ ck;refine gN ?_;refine⟨_,rfl,x,C,N,_,.ref lv,rfl,S _ _ B,M.cls,M.a5,c1,_,rfl,lv,.ref a,rfl,.inl ⟨_,.inr r',.inl (S _ _ b4),rfl,(fX kA c0 ck).symm⟩,a,G,cG ds r',rfl,S _ _ c2,c3.kt (ae.kt S),aP (Bk _ _) (by omega),m.sg0,fun bm l=>⟨_,rfl,?_⟩⟩;have cl:(((O.take i).filter (lz ds)).map V.str).length<ao:=by
   rw[aq];refine aU (aP (jW _ _) ?_);rw[aL];omega
  refine dz (fun hq=>?_) (fun hq=>?_)
  ·refine⟨_,rfl,l _ _ f',cl,uf hi ⟨?_,?_,aa⟩⟩
   ·rw[jk hr,if_pos (show lz ds r'=true from hq),aK];rfl
   ·intro b o q;rw[am (ah q hf)];exact l _ _ (S _ _ q)
  ·refine uf hi ⟨?_,S.trans l,?_⟩
   ·rw[jk hr,if_neg (show ¬lz ds r'=true from hq),dA]
   ·exact l _ _ f'
 rintro I d6 ⟨rfl,S7,f7⟩;rw[aq,cO]at f7;refine qG (ws:=O.filter (lz ds)) (aA.of f7) (aP (jW _ _) (by omega)) fun qu bn=>⟨_,rfl,x,C,N,_,rfl,kp (S7 _ _ B) bn,M.cls,M.a6,by omega,?_⟩;obtain⟨H7,e7,al,F7⟩:=zY "quiet" (.ref qu) (kp (x:=.dK (bU (O.filter (lz ds)))) (S7 _ _ B) bn);rw[<-e7];have n7:qu≠x:=(ah (S7 _ _ B) bn).symm;have c4:=F7 _ _ aa n7;have E7:cV x H6 H7:=((ae.exB S7).trans (cV.new bn)).trans F7;have L7:=L6.exI B E7;have d1:=gV ("quiet":Str) (.ref qu) (c_ ("leaving":Str) (.ref lv) v);clear e7 F7;refine⟨_,rfl,l4,ts,ds,rfl,L7.a4,L7.ds,by omega,fun sg b6 d8 G' S8=>⟨_,rfl,x,C,N,_,rfl,S8 _ _ al,M.cls,M.a7,by omega,?_⟩⟩;obtain⟨H8,e8,D,F8⟩:=zY "sign_goals" (.ref sg) (S8 _ _ al);rw[<-e8];have E8:cV x H7 H8:=(ae.exB S8).trans F8;have L8:=L7.exI al E8;have G8:iu H8 sg b6 ds:=⟨G'.nd,F8 _ _ G'.g (Ir (S8 _ _ al) G'.g),fun y hy=>F8 _ _ (G'.ls y hy) (cV.neI (S8 _ _ al) (G'.ls y hy)),G'.all⟩;have d2:=gV ("sign_goals":Str) (.ref sg) (c_ ("quiet":Str) (.ref qu) (c_ ("leaving":Str) (.ref lv) v));have c5:lk "sign_goals" (c_ ("sign_goals":Str) (.ref sg) (c_ ("quiet":Str) (.ref qu) (c_ ("leaving":Str) (.ref lv) v)))=some (.ref sg):=by
  show jd _ _=_;rw[eO,if_pos rfl]
 clear e8 F8 G';refine⟨_,rfl,l3,rfl,⟨_,aA.of L8.a3⟩,fun b0 cm=>?_⟩;refine cU (xs:=O.map V.str) (fun i I U=>Ld fun(G:Ze) (pl:List (Str×Addr))=>NA6 (I=G.map V.ref) (Paired (fun t (p:Str×Addr)=>U t=some (.tup [.str p.1,.ref p.2])) G pl) (pl.map (·.1)=O.take i) ((∀p∈pl,∃L,U p.2=some (.dK (bU L))/\L.Nodup/\∀w,w∈L↔Reach ds p.1 w)) (ae H8 U) (U b0=some (.lst I)))
  ⟨[],[],rfl,.nil,rfl,by simp,ae.new cm,aa⟩ (fun i I U _ zq=>by obtain⟨_,_,_,_,_,_,S,h'⟩:=zq;exact⟨h',aA.of (S _ _ L8.a3)⟩) ?_ ?_
 rotate_left
 ·rintro i I U x' b5 hi ⟨G,pl,rfl,an,cn,dc,S,f'⟩;obtain⟨r,hr,rfl⟩:=dh b5;have dd:G.length<=150:=by
   rw[Paired.length an,<-aq (f:=(·.1)) (as:=pl),cn,aL];omega
  refine gN (pO ?_);refine⟨_,rfl,_,rfl,x,C,N,_,.ref sg,rfl,S _ _ D,M.cls,M.a7,c5,_,rfl,sg,r,b6,ds,O,rfl,G8.same S,fun d hd=>(m.good d hd).b,by omega,fun ld Lr bm di nd dk ea l=>⟨(by show 2<=ao;decide),fun t ht=>⟨?_,?_,uf hi ⟨G++[t],pl++[(r,ld)],?_,?_,?_,?_,?_,aa⟩⟩⟩⟩
  ·exact kp (l _ _ f') ht
  ·rw[aq];exact aU (by omega)
  ·rw[aK];rfl
  ·have KT:BO (upd bm t (.tup [.str r,.ref ld])) (upd (upd bm t (.tup [.str r,.ref ld])) b0 (.lst (G.map V.ref++[.ref t]))):=jz (kp (l _ _ f') ht);exact Paired.app (Paired.mapP an fun t' p' e=>KT _ _ (kp (l _ _ e) ht)) (.cons (KT _ _ aa) .nil)
  ·rw[aK,cn,take_snoc hr];rfl
  ·have co:∀{b:Addr}{dm:List (eE×V)},upd bm t (.tup [.str r,.ref ld]) b=some (.dK dm)->b≠b0:=fun hb z=>by rw[z,kp (l _ _ f') ht]at hb;cases hb
   intro p hp;rcases bu.mp hp with hp|hp
   ·obtain⟨L0,T,g2⟩:=dc p hp;refine⟨L0,?_,g2⟩;have:=kp (x:=.tup [.str r,.ref ld]) (l _ _ T) ht;rw[am (co this)];exact this
   ·have:p=(r,ld):=by simpa using hp
    subst this;refine⟨Lr,?_,nd,dk⟩;have:=kp (x:=.tup [.str r,.ref ld]) di ht;rw[am (co this)];exact this
  ·intro b o q;rw[am (ah q cm)];exact kp (l _ _ (S _ _ q)) ht
 rintro I eb ⟨G,sps,rfl,an,J,cs,S9,f9⟩;rw[aq,cO]at J;have dn:(sps.map (·.1)).Nodup:=by rw[J];exact m.okR.1
 refine⟨b0,G,dX Sum.inr sps,rfl,aA.of f9,?_,?_,fun sl ab=>⟨_,rfl,x,C,N,_,rfl,kp (S9 _ _ D) ab,M.cls,M.a8,by omega,?_⟩⟩
 ·rw[Paired.length an];unfold dX;rw[aq]
 ·intro j t kv hj b7;obtain⟨p,hp,e⟩:=Paired.getL an hj;unfold dX at b7;rw[bD,hp]at b7;have:=d4 b7;rw[<-this];exact e
 have b1:jy [] (dX Sum.inr sps)=dX Sum.inr sps:=uo sps [] dn;rw[b1];obtain⟨H9,e9,b8,F9⟩:=zY "still_led" (.ref sl) (kp (x:=.dK (dX Sum.inr sps)) (S9 _ _ D) ab);rw[<-e9];have n9:sl≠x:=(ah (S9 _ _ D) ab).symm;have ct:=F9 _ _ aa n9;have E9:cV x H8 H9:=((ae.exB S9).trans (cV.new ab)).trans F9;have L9:=L8.exI D E9;have ap:∀p∈sps,∃L,H9 p.2=some (.dK (bU L))/\L.Nodup/\∀w,w∈L↔Reach ds p.1 w:=fun p hp=>by
  obtain⟨L0,T,g2⟩:=cs p hp;have g3:=kp (x:=.dK (dX Sum.inr sps)) T ab;exact⟨L0,F9 _ _ g3 (FO (kp (S9 _ _ D) ab) g3),g2⟩
 clear e9 F9;have cB:lk "still_led" (c_ ("still_led":Str) (.ref sl) (c_ ("sign_goals":Str) (.ref sg) (c_ ("quiet":Str) (.ref qu) (c_ ("leaving":Str) (.ref lv) v))))=some (.ref sl):=by
  show jd _ _=_;rw[eO,if_pos rfl]
 refine⟨_,rfl,_,rfl,x,C,N,_,.ref sl,rfl,b8,M.cls,M.a8,cB,l3,sl,O,sps,(fun r=>Reach ds r r),rfl,L9.a3,ct,J,m.okR.1,fun p hp=>?_,fun o cC fo ai=>uh (fun ho=>k cC (ho▸fo) ?_ ?_) fun n hn a U xa s=>kx n a U (hn▸fo) xa ?_⟩
 ·obtain⟨L0,T,g2,g3⟩:=ap p hp;exact⟨L0,T,g3 _⟩
 ·have ce:cV x H6 H9:=(E7.trans E8).trans E9;have dp:=((E6.trans E7).trans E8).trans E9;have Y:∀{b:Addr}{o:HO},H9 b=some o->cC b=some o:=fun h=>ai _ _ h;have LL:Lists H5 o1 o2 o3 o4 ts J0 J4 O ds:=⟨(E3.trans (E4.trans E5)) _ _ f1 n1,(E4.trans E5) _ _ f2 n2,E5 _ _ f3 n3,f4,L5.ds⟩;refine⟨⟨N,_,o1,o2,o3,o4,lv,qu,sg,sl,ts,bl,b6,sps,Y b8,?_,?_,?_,?_,?_,?_,?_,?_,?_,?_,?_,cB,(LL.exI u dp).same ai,aj,?_,?_,?_,?_,J,Y ct,fun p hp=>?_⟩,⟨N,_,Y b8,?_,?_,?_,?_⟩⟩
  rotate_right 9
  ·exact Y (ce _ _ b4 (FO B b4))
  ·intro y hy;obtain⟨dt,T,g2⟩:=ci y hy;exact⟨dt,Y (ce _ _ T (cV.neI B T)),(g2.kt (ce.ktI B)).kt (ae.kt ai)⟩
  ·exact Y ((E8.trans E9) _ _ c4 n7)
  ·exact iu.same ⟨G8.nd,E9 _ _ G8.g (Ir D G8.g),fun y hy=>E9 _ _ (G8.ls y hy) (cV.neI D (G8.ls y hy)),G8.all⟩ ai
  ·obtain⟨L0,T,g2⟩:=ap p hp;exact⟨L0,Y T,g2⟩
  all_goals(show jd _ _=_;subst b2;repeat (rw[eO];first|rw[if_pos rfl] | rw[if_neg (by decide +kernel)]))
  all_goals rfl
 ·exact((((((((E1.trans E2).trans E3).trans E4).trans E5).trans E6).trans E7).trans E8).trans E9).trans (ae.exB ai)
 ·exact(((((((((E1.trans E2).trans E3).trans E4).trans E5).trans E6).trans E7).trans E8).trans E9).trans (ae.exB ai)).trans (ae.exB s)
def eD(J0 J4 J5:Zb)(ds:List av)(o:Option (Str×Nat)):Prop :=
 (∃p n,o=some (p,n)/\eI J0 J4 J5 ds=some (p,n))∨(gf J0 J4 J5 ds/\∃q,gL J5 (fun r=>Reach ds r r) q/\o=q.map fun n=>(("still":Str),n))
theorem eD.uniq{e g i:Zb}{j:List av}{o k:Option (Str×Nat)}(h:eD e g i j o)(l:eD e g i j k):o=k:=by
 rcases h with⟨p,n,rfl,w⟩|⟨m,q,f,rfl⟩<;>rcases l with⟨t,u,rfl,a⟩|⟨r,v,s,rfl⟩
 ·rw[w]at a;exact a
 ·rw[j8 r]at w;cases w
 ·rw[j8 m]at a;cases a
 ·rw[f.uniq s]
inductive oB(C Cx:Addr)(vs:List V)(H:Hp)(Q:VK)(E:XK):Prop
 |mk (x dx l1 l2 l3 l4:Addr) (ts:Ze) (J0 J4 J5:Zb) (ds:List av) (o:Option (Str×Nat)):(vs=[.ref x,.ref l1,.ref l2,.ref l3,.ref l4])->(H x=some (.ins C dx []))->(Lists H l1 l2 l3 l4 ts J0 J4 J5 ds)->(GF J0 J4 J5 ds)->(eD J0 J4 J5 ds o)->((o=none->∀H',Al C H' x J0 J4 J5 ds->cV x H H'->Q .non H'))->(∀p n,o=some (p,n)->∀a H',Kb Cx H' a (.str p) (.int (n:Nat))->cV x H H'->E (.ref Cx) (some a) H')->oB C Cx vs H Q E
theorem Ff{K:Za}{C Cx:Addr}(M:MC K C){r:List V}{H:Hp}{Q:VK}{E:XK}(h:oB C Cx r H Q E):
  iI K (Bw (dw Cx) E) cM tT lp (sp_as_keys K) sp_has_asks_alone sp_doors_by_start (Bw (eL Cx) E) (bJ Q) (start iW r) H:=by
 obtain⟨x,O,t,u,y,B,D,G,I,J,N,o,rfl,hx,L,F,v,k,i⟩:=h;rcases v with⟨p,n,rfl,w⟩|⟨m,q,f,rfl⟩
 ·refine⟨_,rfl,_,rfl,_,rfl,_,rfl,t,u,y,B,D,G,I,J,N,rfl,L,F,fun z=>?_,fun U Y e a g j s=>?_⟩
  ·rw[w]at z;cases z
  ·rw[w]at e;cases e;exact i _ _ rfl a g j (ae.exB s)
 ·refine Fh M ⟨x,O,t,u,y,B,D,G,I,J,N,rfl,hx,L,m,fun g l T ex=>?_,fun n a g l j ex=>?_⟩
  ·rw[f.uniq l]at k;exact k rfl g T ex
  ·rw[f.uniq l]at i;exact i _ _ rfl a g j ex
theorem DN{x:Str}{J0 J4:Zb}:decide ([x]∈bB J0 J4)=decide ([x]=aJ):=by
 by_cases h:[x]=aJ
 ·rw[zzr1 h,zzr1];exact dI _ (by rw[h];exact bR)
 ·rw[zzr0 h,zzr0];intro z;rcases bu.mp z with z|z
  ·rcases bu.mp z with z|z<;>obtain⟨w,_,e⟩:=aR.mp z<;>cases e
  ·exact h (by simpa using z)
theorem jO{x y:Str}{f g:Zb}:[x,y]∈bB f g↔(x="ask"/\y∈f)∨(x="say"/\y∈g):=by
 constructor
 ·intro z;rcases bu.mp z with z|z
  ·rcases bu.mp z with z|z<;>obtain⟨w,i,e⟩:=aR.mp z<;>injection e with j a<;>injection a with a _<;>subst j<;>subst a
   ·exact .inl ⟨rfl,i⟩
   ·exact .inr ⟨rfl,i⟩
  ·have:[x,y]=aJ:=by simpa using z
   cases this
 ·rintro(⟨rfl,h⟩|⟨rfl,h⟩)
  ·exact cL _ (cL _ (aR.mpr ⟨y,h,rfl⟩))
  ·exact cL _ (dI _ (aR.mpr ⟨y,h,rfl⟩))
inductive kf (vs:List V)(H:Hp)(Q:VK)(E:XK):Prop
 |mk (s l1 l2:Addr) (sg J0 J4:Zb):(vs=[.ref s,.ref l1,.ref l2])->(SignAt H s sg)->((sg.length=1∨sg.length=2))->(H l1=some (.lst (J0.map V.str)))->(H l2=some (.lst (J4.map V.str)))->(∀H',ae H H'->Q (.bl (decide (sg∈bB J0 J4))) H')->kf  vs H Q E
theorem A3{K:Za}{i:List V}{H:Hp}{Q:VK}{E:XK}(h:kf i H Q E):vb K (bJ Q) (start vv i) H:=by
 obtain⟨s,o,p,f,J0,J4,rfl,j,z,q,r,k⟩:=h;have st:cq K H s (f.map V.str):=cq.of j;refine⟨_,rfl,.inl ⟨s,_,rfl,.inr st,rfl,_,rfl,?_⟩⟩;rcases z with z|z
 ·obtain⟨x,rfl⟩:∃x,f=[x]:=by
   match f,z with
   |[x],_=>exact⟨x,rfl⟩
  refine dz (fun _=>?_) (fun c=>absurd (zzr1 rfl) c);refine⟨_,rfl,(by show 1<=ao;decide),fun t l=>⟨vo [x],vo aJ,f_ (cq.of (kp j l)),f_ (cq.of aa),by rw[jl];decide,by rw[jl];decide,?_⟩⟩;rw[yr,<-DN (J0:=J0) (J4:=J4)];exact k _ (ae.new l)
 ·obtain⟨x,y,rfl⟩:∃x y,f=[x,y]:=by
   match f,z with
   |[x,y],_=>exact⟨x,y,rfl⟩
  have k:=k H (ae.refl _);refine dz (fun c=>?_) (fun _=>?_)
  ·have:=of_decide_eq_true c;cases this
  have g:[x,y]∈bB J0 J4->Q (.bl true) H:=fun c=>by rw[zzr1 c]at k;exact k
  have no:[x,y]∉bB J0 J4->Q (.bl false) H:=fun c=>by rw[zzr0 c]at k;exact k
  have m:¬(("ask":Str)="say"):=by decide +kernel
  refine⟨_,rfl,s,_,0,.str x,rfl,rfl,st,rfl,rfl,_,rfl,?_⟩;have a:∀{u:Str},(decide (V.str x=V.str u)=true↔x=u):=fun{u}=>⟨fun c=>by have:=of_decide_eq_true c;injection this,fun e=>zzr1 (by rw[e])⟩;refine dz (fun c=>?_) (fun c=>?_)
  ·have c:=a.mp c;subst c;refine⟨_,rfl,s,_,1,.str y,rfl,rfl,st,rfl,_,rfl,bx y,J0.map bx,o,_,jm y,rfl,.inl (aA.of q),f6 _,cf _,by rw[bZ];decide,_,rfl,?_⟩;refine dz (fun d=>?_) (fun d=>?_)
   ·exact g (jO.mpr (.inl ⟨rfl,l_.mp (of_decide_eq_true d)⟩))
   ·refine⟨_,rfl,s,_,0,.str "ask",rfl,rfl,st,rfl,rfl,_,rfl,?_⟩;refine dz (fun c=>absurd (a.mp c) m) (fun _=>no fun z=>?_);rcases jO.mp z with z|z
    ·exact d (zzr1 (l_.mpr z.2))
    ·exact m z.1
  ·refine⟨_,rfl,bC ?_⟩;have n:x≠"ask":=fun e=>c (a.mpr e);refine⟨_,rfl,s,_,0,.str x,rfl,rfl,st,rfl,rfl,_,rfl,?_⟩;refine dz (fun c=>?_) (fun c=>?_)
   ·have c:=a.mp c;subst c;refine⟨_,rfl,s,_,1,.str y,rfl,rfl,st,rfl,_,rfl,bx y,J4.map bx,p,_,jm y,rfl,.inl (aA.of r),f6 _,cf _,by rw[bZ];decide,?_⟩;show Q (.bl (decide (bx y∈J4.map bx))) H;rw[lE];by_cases d:y∈J4
    ·rw[zzr1 d];exact g (jO.mpr (.inr ⟨rfl,d⟩))
    ·rw[zzr0 d];refine no fun z=>?_;rcases jO.mp z with z|z
     ·exact n z.1
     ·exact d z.2
   ·refine no fun z=>?_;rcases jO.mp z with z|z
    ·exact n z.1
    ·exact c (a.mpr z.1)
def Gw(ds:List av):Prop:=∀d∈ds,d.sg.length=1∨d.sg.length=2
inductive gF (vs:List V)(H:Hp)(Q:VK)(E:XK):Prop
 |mk (l1 l2 l3 l4:Addr) (ts:Ze) (J0 J4 J5:Zb) (ds:List av):(vs=[.ref l1,.ref l2,.ref l3,.ref l4])->(Lists H l1 l2 l3 l4 ts J0 J4 J5 ds)->(GF J0 J4 J5 ds)->(Gw ds)->(∀H',ae H H'->Q (oV (u8 J5 (bB J0 J4) 0 [] ds)) H')->gF  vs H Q E
theorem vh{K:Za}{vs:List V}{H:Hp}{Q:VK}{E:XK}(h:gF vs H Q E):pS K kf (bJ Q) (start qJ vs) H:=by
 obtain⟨l1,l2,l3,l4,m,N,O,r,f,rfl,L,F,G,k⟩:=h;have z4:=F.d;have T:m.length=f.length:=Paired.length L.ds;refine fun e he=>?_;have C:ae H (upd H e (.dT [])):=ae.new he;have e0:upd H e (.dT []) e=some (.dT []):=aa;generalize upd H e (.dT [])=H0 at C e0 ⊢;refine⟨_,rfl,_,rfl,l4,_,rfl,aA.of (C _ _ L.a4),fun v ak=>?_⟩;have S2:ae H0 (upd H0 v (.lst (dq (m.map V.ref) none (some (2000:Int))))):=ae.new ak;have U:upd H0 v (.lst (dq (m.map V.ref) none (some (2000:Int)))) v=some (.lst ((m.take 2000).map V.ref)):=by
  rw[aa,jY];exact congrArg (fun z=>some (HO.lst z)) (z8 (m.map V.ref) 2000)
 have ee:=S2 _ _ e0;have SH:=C.trans S2;have al:H e=none:=he;generalize upd H0 v (.lst (dq (m.map V.ref) none (some (2000:Int))))=H2 at S2 U ee SH ⊢;refine⟨v,rfl,⟨_,aA.of U⟩,?_⟩;have an:v≠e:=fun z=>by rw[z,ee]at U;cases U
 refine fz (xs:=(m.take 2000).map V.ref) (fun i σ H'=>∃x y z w,σ=[some (.ref l1),some (.ref l2),some (.ref l3),some (.ref l4),some (.ref e),x,y,z,w]/\ae H H'/\H' v=some (.lst ((m.take 2000).map V.ref))/\H' e=some (.dT (jj ((f.take i).map yu)))/\u8 r (bB N O) i (f.take i) (f.drop i)=u8 r (bB N O) 0 [] f)
  ⟨_,_,_,_,rfl,SH,U,ee,rfl⟩ (fun i σ H' _ zq=>by obtain⟨_,_,_,_,_,_,g,_⟩:=zq;exact aA.of g) ?_ ?_
 ·rintro i x σ H' q hi ⟨x5,x6,x7,x8,rfl,hS,ap,as,hf⟩ hq;obtain⟨t,n,rfl⟩:=dj hi;have aC:i<2000/\m[i]?=some t:=by
   rw[List.getElem?_take]at n;split at n
   ·exact⟨by assumption,n⟩
   ·cases n
  obtain⟨dr,j,aH⟩:=Paired.getL L.ds aC.2;have aT:i<f.length:=(dg.mp j).1;have ed:f.drop i=dr::f.drop (i+1):=by
   rw[j4 aT];congr 1;exact(dg.mp j).2
  rw[ed]at hf;have l:ae H (upd H' q (.tup [.int i,.ref t])):=hS.trans (ae.new hq);have Y:upd H' q (.tup [.int i,.ref t]) q=some (.tup [.int i,.ref t]):=aa;have B:upd H' q (.tup [.int i,.ref t]) v=_:=kp ap hq;have D:upd H' q (.tup [.int i,.ref t]) e=_:=kp as hq;generalize upd H' q (.tup [.int i,.ref t])=H3 at Y B D l ⊢;obtain⟨s,aX,I⟩:=aH.kt (ae.kt l);refine⟨q,_,rfl,cq.of Y,rfl,_,_,rfl,_,_,rfl,t,_,rfl,cq.of aX,rfl,_,_,rfl,_,_,rfl,_,_,rfl,rfl,rfl,?_⟩;have L3:=L.same l;have p:∀H',ae H3 H'->(i=2000∨dr∈f.take i∨dr.a∉r∨dr.sg∉bB N O∨dr.b∉r)->Q (.int i) H':=by
   intro H' sx c;have:=k H' (l.trans sx);rw[<-hf]at this;unfold u8 at this;rw[if_pos c]at this;exact this
  refine⟨_,rfl,_,rfl,bx dr.a,r.map bx,l3,_,jm _,rfl,.inl (aA.of L3.a3),f6 _,cf _,by rw[bZ];decide,_,rfl,?_⟩;rw[if_pos rfl,lE];by_cases c3:dr.a∈r;rotate_left
  ·rw[zzr0 c3];exact bI (bI ⟨_,rfl,p _ (ae.refl _) (.inr (.inr (.inl c3)))⟩)
  rw[zzr1 c3];refine bC ?_;refine⟨_,rfl,_,rfl,bx dr.b,r.map bx,l3,_,jm _,rfl,.inl (aA.of L3.a3),f6 _,cf _,by rw[bZ];decide,_,rfl,?_⟩;rw[if_pos rfl,lE];by_cases c5:dr.b∈r;rotate_left
  ·rw[zzr0 c5];exact bI (bI ⟨_,rfl,p _ (ae.refl _) (.inr (.inr (.inr (.inr c5))))⟩)
  rw[zzr1 c5];refine bC ?_;refine⟨_,rfl,_,rfl,_,rfl,s,l1,l2,dr.sg,N,O,rfl,I,G dr (ca j),L3.a1,L3.a2,fun H4 S4=>⟨_,rfl,?_⟩⟩;by_cases c4:dr.sg∈bB N O;rotate_left
  ·rw[zzr0 c4];exact bI ⟨_,rfl,p _ S4 (.inr (.inr (.inr (.inl c4))))⟩
  rw[zzr1 c4];refine bC ?_;refine⟨_,rfl,_,rfl,_,rfl,(by show 3<=ao;decide),fun u hu=>?_⟩;have S5:ae H3 (upd H4 u (.tup [.str dr.a,.ref s,.str dr.b])):=S4.trans (ae.new hu);have ab:fm (upd H4 u (.tup [.str dr.a,.ref s,.str dr.b])) u dr:=⟨s,aa,S5 _ _ I⟩;generalize upd H4 u (.tup [.str dr.a,.ref s,.str dr.b])=H5 at S5 ab ⊢;have J:(yu dr).depth<=8:=by rw[pR];decide
  refine⟨_,rfl,e,_,rfl,.inr ⟨_,yu dr,u,.inl (S5 _ _ D),rfl,ir.isIn 8 J ab.tk,J,rfl⟩,_,rfl,?_⟩;rw[zR];by_cases c2:dr∈f.take i
  ·rw[zzr1 (sH.mpr c2)];exact bI ⟨_,rfl,p _ S5 (.inr (.inl c2))⟩
  rw[zzr0 (fun z=>c2 (sH.mp z))];refine bC ?_;refine⟨_,rfl,_,rfl,_,rfl,_,rfl,(by show 3<=ao;decide),fun u2 a0=>?_⟩;have S6:ae H3 (upd H5 u2 (.tup [.str dr.a,.ref s,.str dr.b])):=S5.trans (ae.new a0);have ai:fm (upd H5 u2 (.tup [.str dr.a,.ref s,.str dr.b])) u2 dr:=⟨s,aa,S6 _ _ I⟩;generalize upd H5 u2 (.tup [.str dr.a,.ref s,.str dr.b])=H6 at S6 ai ⊢;have aj:(jj ((f.take i).map yu)).length<ao:=bb (aP (v7 _) (by rw[aq,aL];omega));refine⟨e,_,rfl,.inr ⟨_,yu dr,u2,S6 _ _ D,rfl,ai.tk,J,aj,rfl⟩,_,_,_,_,rfl,?_,?_,?_,?_⟩
  ·intro b o q;rw[am (ah q al)];exact S6 _ _ (l _ _ q)
  ·rw[am an];exact S6 _ _ B
  ·rw[aa,take_snoc j,aK];exact congrArg (fun z=>some (HO.dT z)) (kz _ _).symm
  ·rw[<-hf,take_snoc j]
   conv=>rhs;unfold u8
   rw[if_neg];rintro(z|z|z|z|z)
   ·omega
   ·exact c2 z
   ·exact z c3
   ·exact z c4
   ·exact z c5
 ·rintro σ H' ⟨x,y,z,w,rfl,hS,_,_,hf⟩;rw[aq,aL,T]at hf;refine⟨_,rfl,.inl ⟨l4,_,rfl,.inl (aA.of (hS _ _ L.a4)),_,_,rfl,rfl,_,rfl,?_⟩⟩;rw[aq,T];have M:=k H' hS;rw[<-hf]at M;refine dz (fun c=>?_) (fun c=>?_)
  ·have c:2000<f.length:=by have:=of_decide_eq_true c;omega
   rw[mO (by omega),j4 c]at M;unfold u8 at M;rw[if_pos (.inl rfl)]at M;exact M
  ·have c:f.length<=2000:=by
    rcases Nat.lt_or_ge 2000 f.length with z|z
    ·exact absurd (zzr1 (by omega)) c
    ·exact z
   rw[wx c,kR]at M;exact M
def iM(d:av):Bool:=decide (d.sg=aJ)
def jT(ds:List av)(r:Str):List Str:=((ds.filter iM).filter fun d=>decide (d.a=r)).map av.b
theorem tR{e:List av}{a b:Str}:(⟨a,aJ,b⟩:av)∈e.filter iM↔(⟨a,aJ,b⟩:av)∈e :=
 ⟨fun h=>(iC.mp h).1,fun h=>iC.mpr ⟨h,zzr1 rfl⟩⟩
theorem Reach.mono{g f:List av}(h:∀a b,(⟨a,aJ,b⟩:av)∈g->(⟨a,aJ,b⟩:av)∈f){a b:Str}(r:Reach g a b):Reach f a b:=by
 induction r with
 |one e=>exact .one (h _ _ e)
 |step _ e i=>exact .step i (h _ _ e)
theorem Reach.front{f:List av}{a b:Str}(r:Reach f a b):∃g,(⟨a,aJ,g⟩:av)∈f/\(b=g∨Reach f g b):=by
 induction r with
 |one e=>exact⟨_,e,.inl rfl⟩
 |step _ e h =>
  obtain⟨g,i,z⟩:=h;refine⟨g,i,.inr ?_⟩;rcases z with z|z
  ·subst z;exact .one e
  ·exact .step z e
theorem nn{i:List av}{r g:Str}:g∈jT i r↔(⟨r,aJ,g⟩:av)∈i:=by
 constructor
 ·intro h;obtain⟨d,j,e⟩:=aR.mp h;obtain⟨k,a⟩:=iC.mp j;obtain⟨l,f⟩:=iC.mp k;have a:=of_decide_eq_true a;have f:=of_decide_eq_true f;cases d;simp only at *;subst e;subst a;subst f;exact l
 ·intro h;exact aR.mpr ⟨_,iC.mpr ⟨tR.mpr h,zzr1 rfl⟩,rfl⟩
theorem vS{ds:List av}{r:Str}:yQ (ds.filter iM) (jT ds r) r↔Reach ds r r:=by
 constructor
 ·rintro⟨g,f,e⟩;have one:=Reach.one (nn.mp f);rcases e with e|e
  ·rw[<-e]at one;exact one
  ·exact one.trans (e.mono fun a b=>tR.mp)
 ·intro h;obtain⟨g,f,e⟩:=h.front;exact⟨g,nn.mpr f,e.imp id fun z=>z.mono fun a b=>tR.mpr⟩
theorem yD{f:List av}(j:f.Nodup)(r:Str):(jT f r).Nodup:=by
 unfold jT List.Nodup;rw[List.pairwise_map];have g:((f.filter iM).filter fun d=>decide (d.a=r)).Nodup:=(j.filter _).filter _;refine List.Pairwise.imp_of_mem (fun{a b} k l ne e=>ne ?_) g;obtain⟨m,h⟩:=iC.mp k;obtain⟨n,i⟩:=iC.mp l;have o:=of_decide_eq_true (iC.mp m).2;have p:=of_decide_eq_true (iC.mp n).2;have h:=of_decide_eq_true h;have i:=of_decide_eq_true i;cases a;cases b;simp only at *;rw[e,h,i,o,p]
theorem uz(P:Str->Prop):∀f:List Str,∃o,gL f P o
 |[]=>⟨none,.inl ⟨rfl,fun _ h=>nomatch h⟩⟩
 |r::g=>by
  by_cases h:P r
  ·exact⟨some 0,.inr ⟨0,r,rfl,rfl,h,fun j x z=>absurd z (Nat.not_lt_zero _)⟩⟩
  ·obtain⟨o,i⟩:=uz P g;rcases i with⟨rfl,z⟩|⟨n,x,rfl,e,p,b⟩
   ·refine⟨none,.inl ⟨rfl,fun y k=>?_⟩⟩;rcases bw.mp k with q|q
    ·rw[q];exact h
    ·exact z y q
   ·refine⟨some (n+1),.inr ⟨n+1,x,rfl,e,p,fun j y l a=>?_⟩⟩;cases j with
    |zero=>cases a;exact h
    |succ j=>exact b j y (by omega) a
theorem CV{g:Zb}{f:List (List Str)}:∀{j ahead:List av}{i:Nat},u8 g f i ahead j=none->i<=2000->(i+j.length<=2000)/\(∀d∈j,d∉ahead/\d.a∈g/\d.sg∈f/\d.b∈g)/\j.Nodup
 |[],ahead,i,_,hi=>⟨hi,(fun _ h=>nomatch h),j6⟩
 |n::s,ahead,i,h,hi=>by
  unfold u8 at h;split at h
  ·cases h
  ·rename_i c;have t:i≠2000:=fun z=>c (.inl z);have l:n∉ahead:=fun z=>c (.inr (.inl z));have m:n.a∈g:=Decidable.by_contra fun z=>c (.inr (.inr (.inl z)));have o:n.sg∈f:=Decidable.by_contra fun z=>c (.inr (.inr (.inr (.inl z))));have p:n.b∈g:=Decidable.by_contra fun z=>c (.inr (.inr (.inr (.inr z))));obtain⟨u,k,q⟩:=CV h (by omega);refine⟨by rw[bP];omega,fun w r=>?_,?_⟩
   ·rcases bw.mp r with e|e
    ·rw[e];exact⟨l,m,o,p⟩
    ·exact⟨fun z=>(k w e).1 (cL _ z),(k w e).2⟩
   ·exact jw.mpr ⟨fun z=>(k n z).1 (by simp),q⟩
theorem As{J0 f g:Zb}{j:List av}(h:eI J0 f g j=none):gf J0 f g j:=by
 unfold eI at h;cases a:aw J0 4 []with
 |some n=>rw[a]at h;cases h
 |none =>
  cases i:aw f 4 J0 with
  |some n=>rw[a,i]at h;cases h
  |none =>
   cases k:aw g 150 []with
   |some n=>rw[a,i,k]at h;cases h
   |none =>
    cases p:u8 g (bB J0 f) 0 [] j with
    |some n=>rw[a,i,k,p]at h;cases h
    |none =>
     obtain⟨r,s,l,_⟩:=fh a;obtain⟨t,u,m,v⟩:=fh i;obtain⟨x,y,o,_⟩:=fh k;obtain⟨I,B,C⟩:=CV p (by decide);refine⟨l,m,v,o,r,t,x,s,u,y,C,fun d D=>?_,by omega⟩;obtain⟨_,E,G,H⟩:=B d D;refine⟨E,H,?_⟩;rcases bu.mp G with z|z
     ·rcases bu.mp z with z|z<;>obtain⟨w,q,e⟩:=aR.mp z
      ·exact .inl ⟨w,q,e.symm⟩
      ·exact .inr (.inl ⟨w,q,e.symm⟩)
     ·exact .inr (.inr (by simpa using z))
theorem Av(g h a:Zb)(e:List av):∃o,eD g h a e o:=by
 cases w:eI g h a e with
 |some f=>exact⟨some f,.inl ⟨f.1,f.2,rfl,w⟩⟩
 |none =>
  obtain⟨q,i⟩:=uz (fun r=>Reach e r r) a;exact⟨_,.inr ⟨As w,q,i,rfl⟩⟩
inductive oo (vs:List V)(H:Hp)(Q:VK)(E:XK):Prop
 |mk (l3 l4:Addr) (ts:Ze) (J0 J4 J5:Zb) (ds:List av):(vs=[.ref l3,.ref l4])->(H l3=some (.lst (J5.map V.str)))->(H l4=some (.lst (ts.map V.ref)))->(dE H ts ds)->(gf J0 J4 J5 ds)->(∀o H',gL J5 (fun r=>Reach ds r r) o->ae H H'->Q (oV o) H')->oo  vs H Q E
theorem EZ{K:Za}{p:List V}{H:Hp}{Q:VK}{E:XK}(h:oo p H Q E):ze K (jf K) (bJ Q) (start Ai p) H:=by
 obtain⟨l3,l4,ts,J0,J4,J5,ds,rfl,h3,h4,M,m,k⟩:=h;have z4:=m.few;have z3:=m.rooms26;refine⟨_,rfl,l4,rfl,⟨_,aA.of h4⟩,fun f hf=>?_⟩;refine cU (xs:=ts.map V.ref) (fun i p n=>∃B:List Addr,p=B.map V.ref/\dE n B ((ds.take i).filter iM)/\ae H n/\n f=some (.lst p)) ⟨[],rfl,.nil,ae.new hf,aa⟩ (fun i p n _ N=>by obtain⟨_,_,_,S,h'⟩:=N;exact⟨h',aA.of (S _ _ h4)⟩) ?_ ?_;rotate_left
 ·rintro i p n x hx hi ⟨B,rfl,D,S,f'⟩;obtain⟨t,ht,rfl⟩:=dj hx;obtain⟨dr,v,C⟩:=Paired.getL M ht;obtain⟨s,G,O⟩:=C.kt (ae.kt S);refine gN ⟨_,rfl,.inr (.inl ⟨t,_,1,_,rfl,rfl,cq.of G,rfl,(by show 1<=ao;decide),fun st T=>⟨vo dr.sg,vo aJ,f_ (cq.of (kp O T)),f_ (cq.of aa),by rw[jl];decide,by rw[jl];decide,_,rfl,?_⟩⟩)⟩;rw[yr];have Sn:ae n (upd n st (.tup [.str "still"])):=ae.new T;have I:=S.trans Sn;have J:=Sn _ _ f';have L:=D.kt (ae.kt Sn);generalize upd n st (.tup [.str "still"])=H2 at Sn I J L ⊢;refine dz (fun c=>?_) (fun c=>?_)
  ·refine⟨_,rfl,J,?_,uf hi ⟨B++[t],by rw[aK];rfl,?_,?_,aa⟩⟩
   ·rw[aq,Paired.length D];refine bb (aP (jW _ _) ?_);rw[aL];omega
   ·rw[ip v,if_pos (show iM dr=true from c)];exact Paired.app (L.kt (jz J)) (.cons ((C.kt (ae.kt I)).kt (jz J)) .nil)
   ·intro b o q;rw[am (ah q hf)];exact I _ _ q
  ·refine uf hi ⟨B,rfl,?_,I,J⟩;rw[ip v,if_neg (show ¬iM dr=true from c),dA];exact L
 rintro p H1 ⟨B,rfl,D1,S1,f1⟩;rw[aq,Paired.length M,cO]at D1;have ab:B.length=(ds.filter iM).length:=Paired.length D1;refine⟨_,rfl,l3,rfl,⟨_,aA.of (S1 _ _ h3)⟩,?_⟩;refine fz (xs:=J5.map V.str) (fun i σ n=>∃x y z,σ=[some (.ref l3),some (.ref l4),some (.ref f),x,y,z]/\ae H1 n/\∀j x,j<i->J5[j]?=some x->¬Reach ds x x) ⟨_,_,_,rfl,ae.refl _,fun _ _ z=>absurd z (Nat.not_lt_zero _)⟩ (fun i σ n _ N=>by obtain⟨_,_,_,_,S,_⟩:=N;exact aA.of (S _ _ (S1 _ _ h3))) ?_ ?_
 ·rintro i x σ n t hi ⟨x2,x3,x4,rfl,S,nb⟩ ht;obtain⟨r,hr,rfl⟩:=dh hi;refine⟨t,_,rfl,cq.of aa,rfl,_,_,rfl,_,_,rfl,rfl,?_⟩;have I:ae H1 (upd n t (.tup [.int i,.str r])):=S.trans (ae.new ht);generalize upd n t (.tup [.int i,.str r])=H2 at I ⊢;have J:=I _ _ f1;have L:=D1.kt (ae.kt I);refine⟨_,rfl,f,rfl,⟨_,aA.of J⟩,fun g hg=>?_⟩;refine cU (xs:=B.map V.ref) (fun i p n=>p=((((ds.filter iM).take i).filter fun d=>decide (d.a=r)).map av.b).map V.str/\ae H2 n/\n g=some (.lst p)) ⟨rfl,ae.new hg,aa⟩ (fun i p n _ N=>by obtain⟨_,S,h'⟩:=N;exact⟨h',aA.of (S _ _ J)⟩) ?_ ?_;rotate_left
  ·rintro j p n x hx U ⟨rfl,S,g'⟩;obtain⟨u,hu,rfl⟩:=dj hx;obtain⟨dr,v,C⟩:=Paired.getL L hu;obtain⟨s,G,O⟩:=C.kt (ae.kt S);refine gN ⟨_,rfl,.inr (.inl ⟨u,_,0,_,rfl,rfl,cq.of G,rfl,_,rfl,rfl,_,rfl,?_⟩)⟩;refine dz (fun c=>?_) (fun c=>?_)
   ·have c:dr.a=r:=by have:=of_decide_eq_true c;injection this
    refine⟨_,rfl,.inr (.inl ⟨u,_,2,_,rfl,rfl,cq.of G,rfl,g',?_,uf U ⟨?_,?_,aa⟩⟩)⟩
    ·rw[aq,aq];refine bb (aP (jW _ _) ?_);rw[aL];have:=jW iM ds;omega
    ·rw[ip v,if_pos (zzr1 c),aK,aK];rfl
    ·intro b o q;rw[am (ah q hg)];exact S _ _ q
   ·have c:¬dr.a=r:=fun e=>c (zzr1 (by rw[e]));refine uf U ⟨?_,S,g'⟩;rw[ip v,if_neg (fun z=>c (of_decide_eq_true z)),dA]
  rintro p H3 ⟨rfl,S3,g3⟩;rw[aq,ab,cO]at g3;have inR:∀w∈jT ds r,w∈J5:=fun w hw=>(m.good _ (nn.mp hw)).b;have gz:=oS (yD m.nodup r) inR;refine⟨_,rfl,_,rfl,_,rfl,f,g,B,ds.filter iM,jT ds r,J5,rfl,S3 _ _ J,L.kt (ae.kt S3),g3,fun d hd=>(m.good d (iC.mp hd).1).b,by omega,by omega,fun q F H4 hq hF zF _ S4=>⟨bx r,F.map bx,q,_,jm r,rfl,.inl (aA.of hq),f6 _,cf _,by rw[bZ];decide,_,rfl,?_⟩⟩;have Y:ae H1 H4:=(I.trans S3).trans S4;refine dz (fun c=>?_) (fun c=>?_)
  ·have c:r∈F:=l_.mp (of_decide_eq_true c);exact⟨_,rfl,k (some i) H4 (.inr ⟨i,r,rfl,hr,vS.mp ((hF r).mp c),nb⟩) (S1.trans Y)⟩
  ·refine⟨_,_,_,rfl,Y,fun j x l e=>?_⟩;rcases Nat.lt_or_ge j i with z|z
   ·exact nb j x z e
   ·have:j=i:=by omega
    rw[this,hr]at e;cases e;exact fun z=>c (zzr1 (l_.mpr ((hF r).mpr (vS.mpr z))))
 ·rintro σ n ⟨x,y,z,rfl,S,nb⟩;refine k none n (.inl ⟨rfl,fun r hr=>?_⟩) (S1.trans S);obtain⟨j,U,e⟩:=List.mem_iff_getElem.mp hr;exact nb j r (by rw[aq];exact U) (by rw[ef U,e])
def yh:List (Str×Option Nat)->Option (Str×Nat)
 |[]=>none
 | (p,some n)::_=>some (p,n)
 | (_,none)::r=>yh r
theorem wZ(a e f:Zb)(g:List av):eI a e f g=yh [("asks",aw a 4 []),("says",aw e 4 a),("rooms",aw f 150 []),("doors",u8 f (bB a e) 0 [] g)]:=by
 unfold eI;cases aw a 4 []with
 |some n=>rfl
 |none =>
  cases aw e 4 a with
  |some n=>rfl
  |none =>
   cases aw f 150 []with
   |some n=>rfl
   |none=>cases u8 f (bB a e) 0 [] g<;>rfl
theorem eD.wrong{a e f:Zb}{g:List av}{o:Option (Str×Nat)}{p:Str}{n:Nat}(v:eD a e f g o)(w:eI a e f g=some (p,n)):o=some (p,n):=v.uniq (.inl ⟨p,n,rfl,w⟩)
theorem eD.right{f g a:Zb}{e:List av}{o:Option (Str×Nat)}(v:eD f g a e o)(w:eI f g a e=none):gf f g a e/\∃q,gL a (fun r=>Reach e r r) q/\o=q.map fun n=>(("still":Str),n):=by
 rcases v with⟨p,n,_,z⟩|z
 ·rw[w]at z;cases z
 ·exact z
def PnAt(H:Hp)(t:Addr)(po:Str×Option Nat):Prop:=H t=some (.tup [.str po.1,oV po.2])
inductive xE (vs:List V)(H:Hp)(Q:VK)(E:XK):Prop
 |mk (l1 l2 l3 l4:Addr) (ts:Ze) (J0 J4 J5:Zb) (ds:List av) (o:Option (Str×Nat)):(vs=[.ref l1,.ref l2,.ref l3,.ref l4])->(Lists H l1 l2 l3 l4 ts J0 J4 J5 ds)->(GF J0 J4 J5 ds)->(Gw ds)->(eD J0 J4 J5 ds o)->((o=none->∀(r:Addr) (H':Hp),H' r=some (.lst [.ref l1,.ref l2,.ref l3,.ref l4])->ae H H'->Q (.ref r) H'))->(∀p n,o=some (p,n)->∀t H',H' t=some (.tup [.str p,.int (n:Nat)])->ae H H'->Q (.ref t) H')->xE  vs H Q E
theorem Je{K:Za}{vs:List V}{H:Hp}{Q:VK}{E:XK}(h:xE vs H Q E):Dn K oo gF (xD K) (bJ Q) (start Eh vs) H:=by
 obtain⟨l1,l2,l3,l4,ts,I,Y,J5,ds,o,rfl,L,F,G,v,k,kx⟩:=h;have z1:=F.a;have z2:=F.s;have z3:=F.r;have wf:=wZ I Y J5 ds;refine⟨_,rfl,(by show 0<=ao;decide),fun q hq=>?_⟩;have S1:ae H (upd H q (.lst [])):=ae.new hq;refine⟨l1,q,I,[],4,rfl,S1 _ _ L.a1,aa,by omega,by decide,F.wa,fun H1 s1=>⟨(by show 2<=ao;decide),fun e ab=>⟨(by show 1<=ao;decide),fun w hw=>?_⟩⟩⟩;generalize aw I 4 []=M at wf ab hw ⊢;have N:=((S1.trans s1).trans (ae.new (o:=.tup [.str "asks",oV M]) ab));have O:H w=none:=N.free hw;have N:=N.trans (ae.new (o:=.lst [.ref e]) hw);have g:upd (upd H1 e (.tup [.str "asks",oV M])) w (.lst [.ref e]) e=some (.tup [.str "asks",oV M]):=kp aa hw;have e1:upd (upd H1 e (.tup [.str "asks",oV M])) w (.lst [.ref e]) w=some (.lst [.ref e]):=aa;generalize upd (upd H1 e (.tup [.str "asks",oV M])) w (.lst [.ref e])=H2 at N g e1 ⊢;have C:∀{Hx:Hp}{t:Addr}{xs ys:List V}{o:HO},Hx w=some (.lst ys)->Hx t=some (.tup xs)->upd Hx w o t=some (.tup xs):=fun h1 h2=>by
  rw[am (fun z=>by rw[z,h1]at h2;cases h2)];exact h2
 refine⟨_,rfl,.inl ⟨rfl,_,aA.of e1⟩,?_⟩;refine⟨_,rfl,_,rfl,l2,l1,Y,I,4,rfl,N _ _ L.a2,N _ _ L.a1,by omega,by decide,F.ws,fun H3 s3=>⟨(by show 2<=ao;decide),fun f ai=>?_⟩⟩;generalize aw Y 4 I=o2 at wf ai ⊢;have j:=s3.trans (ae.new (o:=.tup [.str "says",oV o2]) ai);have e2:=j _ _ e1;have g:=j _ _ g;have u:upd H3 f (.tup [.str "says",oV o2]) f=some (.tup [.str "says",oV o2]):=aa;have T2:=N.trans j;generalize upd H3 f (.tup [.str "says",oV o2])=H4 at e2 g u T2 j ⊢;refine⟨w,_,_,rfl,rfl,e2,(by show 1<ao;decide),?_⟩;have T3:ae H (upd H4 w (.lst ([.ref e]++[.ref f]))):=fun b o q=>by rw[am (ah q O)];exact T2 _ _ q
 have e3:upd H4 w (.lst ([.ref e]++[.ref f])) w=some (.lst [.ref e,.ref f]):=aa;have g:=C (o:=.lst ([.ref e]++[.ref f])) e2 g;have u:=C (o:=.lst ([.ref e]++[.ref f])) e2 u;generalize upd H4 w (.lst ([.ref e]++[.ref f]))=H5 at T3 e3 g u ⊢;refine⟨_,rfl,.inl ⟨rfl,_,aA.of e3⟩,?_⟩;refine⟨_,rfl,(by show 0<=ao;decide),fun q3 as=>?_⟩;have S3:ae H5 (upd H5 q3 (.lst [])):=ae.new as;refine⟨l3,q3,J5,[],150,rfl,S3 _ _ (T3 _ _ L.a3),aa,by omega,by decide,F.wr,fun H6 s6=>⟨(by show 2<=ao;decide),fun l aj=>?_⟩⟩;generalize aw J5 150 []=o3 at wf aj ⊢;have j:=(S3.trans s6).trans (ae.new (o:=.tup [.str "rooms",oV o3]) aj);have e4:=j _ _ e3;have g:=j _ _ g;have u:=j _ _ u;have J:upd H6 l (.tup [.str "rooms",oV o3]) l=some (.tup [.str "rooms",oV o3]):=aa;have T4:=T3.trans j;generalize upd H6 l (.tup [.str "rooms",oV o3])=H7 at e4 g u J T4 j ⊢;refine⟨w,_,_,rfl,rfl,e4,(by show 2<ao;decide),?_⟩;have T5:ae H (upd H7 w (.lst ([.ref e,.ref f]++[.ref l]))):=fun b o q=>by rw[am (ah q O)];exact T4 _ _ q
 have e5:upd H7 w (.lst ([.ref e,.ref f]++[.ref l])) w=some (.lst [.ref e,.ref f,.ref l]):=aa;have g:=C (o:=.lst ([.ref e,.ref f]++[.ref l])) e4 g;have u:=C (o:=.lst ([.ref e,.ref f]++[.ref l])) e4 u;have J:=C (o:=.lst ([.ref e,.ref f]++[.ref l])) e4 J;generalize upd H7 w (.lst ([.ref e,.ref f]++[.ref l]))=H8 at T5 e5 g u J ⊢;refine⟨_,rfl,.inl ⟨rfl,_,aA.of e5⟩,?_⟩;refine⟨_,rfl,_,rfl,_,rfl,_,rfl,l1,l2,l3,l4,ts,I,Y,J5,ds,rfl,L.same T5,F,G,fun H9 s9=>⟨(by show 2<=ao;decide),fun B ak=>?_⟩⟩;generalize a5:u8 J5 (bB I Y) 0 [] ds=o4 at wf ak ⊢;have j:=s9.trans (ae.new (o:=.tup [.str "doors",oV o4]) ak);have e6:=j _ _ e5;have g:=j _ _ g;have u:=j _ _ u;have J:=j _ _ J;have g4:upd H9 B (.tup [.str "doors",oV o4]) B=some (.tup [.str "doors",oV o4]):=aa;have T6:=T5.trans j;generalize upd H9 B (.tup [.str "doors",oV o4])=D at e6 g u J g4 T6 j ⊢;refine⟨w,_,_,rfl,rfl,e6,(by show 3<ao;decide),?_⟩;have T7:ae H (upd D w (.lst ([.ref e,.ref f,.ref l]++[.ref B]))):=fun b o q=>by rw[am (ah q O)];exact T6 _ _ q
 have e7:upd D w (.lst ([.ref e,.ref f,.ref l]++[.ref B])) w=some (.lst ([e,f,l,B].map V.ref)):=aa;have P:Paired (PnAt (upd D w (.lst ([.ref e,.ref f,.ref l]++[.ref B])))) [e,f,l,B] [("asks",M),("says",o2),("rooms",o3),("doors",o4)] :=
  .cons (C e6 g) (.cons (C e6 u) (.cons (C e6 J) (.cons (C e6 g4) .nil)))
 generalize upd D w (.lst ([.ref e,.ref f,.ref l]++[.ref B]))=aC at T7 e7 P ⊢;generalize al:([("asks",M),("says",o2),("rooms",o3),("doors",o4)]:List (Str×Option Nat))=os at P wf;have aH:os.length=4:=by rw[<-al];rfl
 generalize an:[e,f,l,B]=ws at P e7;have aT:ws.length=4:=by rw[<-an];rfl
 clear al an;refine⟨_,rfl,w,rfl,⟨_,aA.of e7⟩,?_⟩;refine gZ (xs:=ws.map V.ref) (fun i σ H'=>∃x y,σ=[some (.ref l1),some (.ref l2),some (.ref l3),some (.ref l4),some (.ref w),x,y]/\ae aC H'/\yh (os.drop i)=yh os) ⟨_,_,rfl,ae.refl _,rfl⟩ (fun i σ H' _ zq=>by obtain⟨_,_,_,S,_⟩:=zq;exact aA.of (S _ _ e7)) ?_ ?_
 ·rintro i x σ H' hi ⟨x5,x6,rfl,S,hf⟩;obtain⟨t,ht,rfl⟩:=dj hi;obtain⟨⟨p,on⟩,ap,pn⟩:=Paired.getL P ht;have pn:H' t=some (.tup [.str p,oV on]):=S _ _ pn;have aX:i<os.length:=(dg.mp ap).1;have ed:os.drop i=(p,on)::os.drop (i+1):=by
   rw[j4 aX];congr 1;exact(dg.mp ap).2
  rw[ed]at hf;refine⟨t,_,rfl,cq.of pn,rfl,_,_,rfl,_,_,rfl,rfl,?_⟩;refine⟨_,rfl,_,rfl,?_⟩;cases on with
  |none =>
   have T:(!decide (oV none=V.non))=false:=by rw[zzr1 (show oV none=V.non from rfl)];rfl
   rw[T];exact bC ⟨_,_,rfl,S,hf⟩
  |some n =>
   have T:(!decide (oV (some n)=V.non))=true:=by rw[zzr0 (show ¬oV (some n)=V.non from fun z=>by cases z)];rfl
   rw[T];refine bI ⟨_,rfl,_,rfl,(by show 2<=ao;decide),fun t' U=>kx p n (v.wrong (wf.trans hf.symm)) t' _ aa ((T7.trans S).trans (ae.new U))⟩
 ·rintro σ H' ⟨x,y,rfl,S,hf⟩;have S:=T7.trans S;rw[aq,aT,<-aH,kR]at hf;obtain⟨m,qf,fq,rfl⟩:=v.right (wf.trans hf.symm);refine⟨_,rfl,_,rfl,l3,l4,ts,I,Y,J5,ds,rfl,S _ _ L.a3,S _ _ L.a4,(L.same S).ds,m,fun q' a6 f' a0=>?_⟩;obtain rfl:=fq.uniq f';have S:=S.trans a0;refine⟨_,rfl,_,rfl,?_⟩;cases qf with
  |none =>
   have T:(!decide (oV none=V.non))=false:=by rw[zzr1 (show oV none=V.non from rfl)];rfl
   rw[T];refine bC ⟨_,rfl,_,rfl,_,rfl,_,rfl,(by show 4<=ao;decide),fun r hr=>k rfl r _ aa (S.trans (ae.new hr))⟩
  |some n =>
   have T:(!decide (oV (some n)=V.non))=true:=by rw[zzr0 (show ¬oV (some n)=V.non from fun z=>by cases z)];rfl
   rw[T];exact bI ⟨_,rfl,(by show 2<=ao;decide),fun t' U=>kx _ n rfl t' _ aa (S.trans (ae.new U))⟩
def mx(w:Nat->Nat):Nat->List Nat->Nat
 |acc,[]=>acc
 |acc,c::cs=>if c=10 then max acc (mx w 0 cs)else mx w (acc+w c) cs
section
variable{w:Nat->Nat}
theorem uk{c a:Nat}{e:List Nat}(h:c=10):mx w a (c::e)=max a (mx w 0 e):=if_pos h
theorem um{c a:Nat}{cs:List Nat}(h:¬c=10):mx w a (c::cs)=mx w (a+w c) cs:=if_neg h
theorem Be(k:Nat):∀(xs:List Nat) (a:Nat),mx w (a+k) xs<=mx w a xs+k
 |[],a=>aG _
 |c::e,a=>by
  by_cases h:c=10
  ·rw[uk h,uk h];omega
  ·rw[um h,um h,show a+k+w c=a+w c+k by omega];exact Be k e (a+w c)
theorem FU:∀(xs:List Nat) (a:Nat),a<=mx w a xs
 |[],a=>aG _
 |c::e,a=>by
  by_cases h:c=10
  ·rw[uk h];omega
  ·rw[um h];have:=FU e (a+w c);omega
theorem xV(b:List Nat):∀(a:List Nat) (e:Nat),mx w e (a++b)<=mx w e a+mx w 0 b
 |[],e=>by
  have:=Be (w:=w) e b 0;rw[Nat.zero_add]at this;show mx w e b<=e+mx w 0 b;omega
 |c::f,e=>by
  show mx w e (c::(f++b))<=_;by_cases h:c=10
  ·rw[uk h,uk h];have:=xV b f 0;omega
  ·rw[um h,um h];exact xV b f _
theorem sF(b:List Nat):∀(a:List Nat) (e:Nat),mx w e a<=mx w e (a++b)
 |[],e=>FU b e
 |c::f,e=>by
  show _<=mx w e (c::(f++b));by_cases h:c=10
  ·rw[uk h,uk h];have:=sF b f 0;omega
  ·rw[um h,um h];exact sF b f _
theorem Hv(a:∀c,w c<=1)(c:Nat)(b:List Nat):mx w 0 (c::b)<=mx w 0 b+1:=by
 have:=a c;by_cases h:c=10
 ·rw[uk h];omega
 ·rw[um h];have:=Be (w:=w) (w c) b 0;omega
theorem CI{r:List Nat}:∀{a:List Nat}{e:Nat},10∉a->mx w e (a++10::r)=max (e+(a.map w).sum) (mx w 0 r)
 |[],e,_=>uk rfl
 |c::f,e,h=>by
  show mx w e (c::(f++10::r))=_;rw[um (fun z=>h (by rw[z];exact bR)),CI fun z=>h (bQ _ z),aS,c8,vD]
theorem FT:∀{a:List Nat}{e:Nat},10∉a->mx w e a=e+(a.map w).sum
 |[],e,_=>rfl
 |c::f,e,h=>by
  rw[um (fun z=>h (by rw[z];exact bR)),FT fun z=>h (bQ _ z),aS,c8,vD]
theorem FS:∀{e:List (List Nat)}{a:List Nat},(∀a∈e,10∉a)->a∈e->(a.map w).sum<=mx w 0 (jn 10 e)
 |[],_,_,h=>by cases h
 |[b],a,hf,h=>by
  have:a=b:=by simpa using h
  subst this;show _<=mx w 0 a;rw[FT (hf a bR),Nat.zero_add];exact aG _
 |b::f::l,a,hf,h=>by
  show _<=mx w 0 (b++10::jn 10 (f::l));rw[CI (hf b bR)];rcases bw.mp h with rfl|h
  ·omega
  ·have:=FS (fun x hx=>hf x (bQ _ hx)) h;omega
end
theorem o7{c:Nat}:∀{ls:List (List Nat)},ls≠[]->(∀a∈ls,c∉a)->(jn c ls).count c+1=ls.length
 |[],h,_=>absurd rfl h
 |[a],_,h=>by show a.count c+1=1;rw[List.count_eq_zero_of_not_mem (h a bR)]
 |a::b::l,_,h=>by
  show(a++c::jn c (b::l)).count c+1=_;rw[pj,List.count_eq_zero_of_not_mem (h a bR),List.count_cons_self];have:=o7 (by simp) fun x hx=>h x (bQ _ hx);simp only[bP]at this ⊢;omega
theorem FW{c:Nat}:∀{e:List (List Nat)}{a:List Nat},a∈e->a.length<=(jn c e).length
 |[],_,h=>by cases h
 |[b],a,h=>by have:a=b:=(by simpa using h);subst this;exact aG _
 |b::f::l,a,h=>by
  show _<=(b++c::jn c (f::l)).length;rw[aV,bP];rcases bw.mp h with rfl|h
  ·omega
  ·have:=FW (c:=c) h;omega
def DH:Nat->Nat:=fun _=>1
def Br:Nat->Nat:=fun c=>if c=32 then 1 else 0
theorem Co(a:List Nat):(a.map DH).sum=a.length:=by
 induction a with
 |nil=>rfl
 |cons c f e=>rw[aS,c8,e,bP];unfold DH;omega
theorem ER(a:List Nat):(a.map Br).sum=a.count 32:=by
 induction a with
 |nil=>rfl
 |cons c f e =>
  rw[aS,c8,e,List.count_cons];unfold Br;by_cases h:c=32
  ·rw[if_pos h,if_pos (by rw[h];rfl)];omega
  ·rw[if_neg h,if_neg (by simpa using h)];omega
structure TB(L B N T:Nat)(xs:List Nat):Prop where
 len:mx DH 0 xs<=L
 bl:mx Br 0 xs<=B
 nl:xs.count 10<=N
 all:xs.length<=T
theorem TB.mono{L B N T a e f g:Nat}{xs:List Nat}(h:TB L B N T xs)(i:L<=a)(j:B<=e)(k:N<=f)(l:T<=g):TB a e f g xs :=
 ⟨aP h.len i,aP h.bl j,aP h.nl k,aP h.all l⟩
def cQ(x:Str):List Str:=(bE x "\n").dropLast
def fx(x:Str):Str:=(bE x "\n").getLast (jJ _ _)
def dC(x:Str):List (List Str):=(cQ x).map fun l=>bE l " "
theorem gR(x:Str):bE x "\n"=cQ x++[fx x]:=(List.dropLast_concat_getLast (jJ _ _)).symm
theorem qF(x:Str)(c:Nat):x.cps.toList=jn c ((bE x ⟨#[c]⟩).map (·.cps.toList)):=by rw[<-lH,StrLaws.join_split]
theorem uy(x:Str)(c:Nat):∀a∈(bE x ⟨#[c]⟩).map (·.cps.toList),c∉a:=fun a e=>by
 obtain⟨p,f,rfl⟩:=aR.mp e;exact StrLaws.split_free _ _ _ f
theorem TB.lines{L B N T:Nat}{x:Str}(h:TB L B N T x.cps.toList):(bE x "\n").length<=N+1/\∀l∈bE x "\n",l.length<=L/\(bE l " ").length<=B+1/\∀w∈bE l " ",w.length<=L:=by
 have e:=qF x 10;have f:=uy x 10;have ne:(bE x ⟨#[10]⟩).map (·.cps.toList)≠[]:=fun z=>jJ _ _ (mM.mp z);rw[CH];have hn:=h.nl;have j:=h.len;have k:=h.bl;rw[e]at hn j k;refine⟨by have:=o7 ne f;rw[aq]at this;omega,fun l m=>?_⟩;have a:l.cps.toList∈(bE x ⟨#[10]⟩).map (·.cps.toList):=aR.mpr ⟨l,m,rfl⟩;have n:=FS (w:=DH) f a;have o:=FS (w:=Br) f a;rw[Co,<-aZ]at n;rw[ER]at o;have i:=qF l 32;have p:=uy l 32;have g:(bE l ⟨#[32]⟩).map (·.cps.toList)≠[]:=fun z=>jJ _ _ (mM.mp z);rw[vL];refine⟨by omega,?_,fun w q=>?_⟩
 ·have:=o7 g p;rw[<-i,aq]at this;omega
 ·have:=FW (c:=32) (show w.cps.toList∈(bE l ⟨#[32]⟩).map (·.cps.toList)from aR.mpr ⟨w,q,rfl⟩);rw[<-i,<-aZ,<-aZ]at this;omega



def w6(K:Za)(a_HEADS:Addr)(C_NoText:Addr)(sp_NoText_init:Sp)(sp_is_row:Sp):(L2.St->XK)->TS :=
 vI (Ie (lI K (aF V0)) (iT K 2 (bt U2 (bt U3 (io)))) (IV (xm (tB (aW sp_is_row (ba V3 V2)))) (lU C_NoText sp_NoText_init (aF V2)) (AJ br)))
 (IV (Du (bc (aI Hd V1 (tC (.str "")))) (bc (aI A9 (du (cD K) (aF V0)) (du (cD K) (aF (tC (.ref a_HEADS))))))) (lU C_NoText sp_NoText_init (aF (du (cD K) (aF V0)))) (AJ br))
def GY(K:Za)(a_HEADS:Addr)(sp_door_of:Sp)(C_Machine:Addr)(sp_Machine_init:Sp)(sp_need_rows:Sp):(L2.St->XK)->TS :=
 vI (AJ (aN (pf K "str" ng V0 (aF (tC (.str "\n")))) U1))
 (vI (AJ (aN (dR 1 [] (dS K (nN (jb K) V1 (bM) (cE (H_ (rU fun i=>.int (-i)) (tC (.int 1)))))) U0 (jx) (pf K "str" ng V0 (aF (tC (.str " "))))) U2))
 (vI (EM (fun W=>rm sp_need_rows [] W (ba V2 (aI (cy K) V1 (H_ (rU fun i=>.int (-i)) (tC (.int 1)))))))
 (vI (AJ (aN (dR 1 [] (dS K (nN (jb K) V2 (bM) (cE (du (cD K) (aF (tC (.ref a_HEADS))))))) U0 (jx) (nN (jb K) V0 (cE (tC (.int 1))) (bM))) (KD K 3 (bt U3 (bt U4 (bt U5 (io)))))))
 (Ib (fun W=>EK C_Machine sp_Machine_init [] W (ay V3 (ay V4 (ay V5 (ay (dR 1 [] (dS K (nN (jb K) V2 (cE (du (cD K) (aF (tC (.ref a_HEADS))))) (bM))) U0 (jx) (aW sp_door_of (aF V0))) bS)))))))))
def tJ(K:Za):TS :=
 au (cu (bc (aI (Hc K) (dR 1 [] (dS K V1) U0 (bc (aI mw V0 (tC (.str "")))) V0) (eJ (bS)))) (bf (tC (.bl false))) (br))
 (au (cu (bc (aI A9 V0 (tC (.int 3)))) (bf (iK (aI mw (aI (cy K) V1 (tC (.int 0))) (aI (cy K) (eJ (fu (tC (.str "asks")) (tC (.str "says")) (tC (.str "rooms")))) V0)) (aI DC (du (cD K) (aF V1)) (tC (.int 1))))) (br))
 (au (cu (bc (aI mw (du (cD K) (aF V1)) (tC (.int 3)))) (bf (aI mw (aI (cy K) V1 (tC (.int 1))) (tC (.str "still")))) (br))
 (bf (iK (aI mw (du (cD K) (aF V1)) (tC (.int 4))) (IU (aI mw (aI (cy K) V1 (tC (.int 1))) (tC (.str "ask"))) (aI mw (aI (cy K) V1 (tC (.int 1))) (tC (.str "say"))))))))
def uR:List Str:=["number","words"]
def tI(K:Za)(sp_law_due:Sp)(sp_law_good_row:Sp):TS :=
 au (aN (pf K "str" ng V0 (aF (tC (.str "\n")))) U1)
 (au (aN (eJ (bS)) U2)
 (au (gk (lI K (ay (nN (jb K) V1 (bM) (cE (H_ (rU fun i=>.int (-i)) (tC (.int 1))))) bS)) (iT K 2 (bt U3 (bt U4 (io)))) (au (aN (pf K "str" ng V4 (aF (tC (.str " ")))) U5)
 (au (cu (xm (tB (aW sp_law_good_row (ba V3 V5)))) (bf (d7 (ba (tC (.str "text")) V3))) (br))
 (dB (pf K "list" fV V2 (aF V5))))))
 (au (cu (Du (bc (aI A9 (du (cD K) (aF V2)) (tC (.int 3)))) (bc (aI Hd (aI (cy K) V1 (H_ (rU fun i=>.int (-i)) (tC (.int 1)))) (tC (.str ""))))) (bf (d7 (ba (tC (.str "text")) (du (cD K) (aF V2))))) (br))
 (au (aN (dR 1 [] (dS K (nN (jb K) V2 (cE (tC (.int 3))) (bM))) U0 (jx) (d7 (ay (aI (cy K) V0 (tC (.int 0))) (ay (du (Ih K) (ay (nN (jb K) V0 (cE (tC (.int 1))) (cE (aI Fm (du (cD K) (aF V0)) (tC (.int 1))))) bS)) (aF (aI (cy K) V0 (aI Fm (du (cD K) (aF V0)) (tC (.int 1))))))))) U6)
 (bf (aW sp_law_due (ay (nN (jb K) (aI (cy K) V2 (tC (.int 0))) (cE (tC (.int 1))) (bM)) (fu (nN (jb K) (aI (cy K) V2 (tC (.int 1))) (cE (tC (.int 1))) (bM)) (nN (jb K) (aI (cy K) V2 (tC (.int 2))) (cE (tC (.int 1))) (bM)) V6))))))))
def uQ:List Str:=["given","lines","found","number","line","words","doors"]
def pT(K:Za)(C_Machine:Addr)(sp_Machine_doors:Sp)(sp_Machine_rooms:Sp)(sp_Machine_says:Sp)(sp_Machine_asks:Sp)(sp_read:Sp)(C_NoMachine:Addr)(C_NoText:Addr):TS :=
 au (aN (tC .non) U1)
 (au (aN (tC .non) U2)
 (au (Kk (Ia (fun W=>rm sp_read [] W (aF V0)) 1) (IW K C_NoText 3 (aN (d7 (ba (tC (.str "text")) (Ci K V3 "number"))) U2) (IW K C_NoMachine 3 (aN (d7 (ba (Ci K V3 "part") (Ci K V3 "number"))) U2) (Kl))))
 (au (cu (tB (EL V1)) (bf V2) (br))
 (bf (eJ (ay (tM C_Machine "asks" sp_Machine_asks [] E0 V1 bS) (fu (tM C_Machine "says" sp_Machine_says [] E0 V1 bS) (tM C_Machine "rooms" sp_Machine_rooms [] E0 V1 bS) (tM C_Machine "doors" sp_Machine_doors [] E0 V1 bS))))))))
theorem vO{K:Za}{n:Nat}{x y:V}{H:Hp}{Q:VK}{E:XK}{d:DT}(i:DR K H d x)(j:DR K H d y)(g:d.depth<=n)(l:n<=8)(sm:DT.sm d=true)(k:∀h,ae H h->Q (.bl true) h):eK K n [x,y] H Q E:=by
 refine⟨[eS K d,eS K d],[],fun r _=>r=.im (bv true),⟨H,H,fun _=>0,fun _=>False⟩,rfl,rfl,(fun _ _ e=>nomatch e),⟨ae.refl _,(fun _ e=>e.elim),(fun _ _ e=>nomatch e),(fun _ _ _ _ e=>nomatch e),j6⟩,.cons i (.cons j .nil),⟨rfl,d,d,rfl,g,g,l,sm,?_⟩,?_⟩
 ·rw[zzr1 rfl]
 ·intro r v m p e w f o;subst e;rw[show v=.bl true from o];exact k _ fun a o q=>w.hh a o q (fun z=>z) (fun z=>by simp[K_]at z)
theorem eD.ok{J0 g h:Zb}{a:List av}(v:eD J0 g h a none)(z:a.length<=1000):bO J0 g h a:=by
 rcases v with⟨p,n,e,_⟩|⟨m,q,f,e⟩
 ·cases e
 ·cases q with
  |some n=>cases e
  |none =>
   rcases f with⟨_,f⟩|⟨n,r,e,_⟩
   ·exact m.ok z f
   ·cases e
def Kj(K:Za)(f:Str):TS:=au (dB (AT K (ba V0 V1))) (Cr K V0 V1 f)
def JO(a:Addr)(H H':Hp):Prop:=∀b o,H b=some o->b≠a->H' b=some o
inductive p_(Cx:Addr)(f:Str)(vs:List V)(H:Hp)(Q:VK)(E:XK):Prop
 |mk (a:Addr) (x:V):(vs=[.ref a,x])->(H a=some (.ext (cX a Cx none)))->(∀d H',H' a=some (.ext (cX a Cx (some d)))->H' d=some (.ext (iU d [(f,x)]))->d≠a->JO a H H'->Q .non H')->p_ Cx f vs H Q E
theorem Jb{K:Za}{Cx:Addr}{f n0 n1:Str}(c:kE K Cx)(l:db K Cx f){g:List V}{H:Hp}{Q:VK}{E:XK}(h:p_ Cx f g H Q E):Kj K f (bJ Q) (start [n0,n1] g) H:=by
 obtain⟨a,x,rfl,i,k⟩:=h;refine⟨_,rfl,_,rfl,a,Cx,none,[x],rfl,i,c,(by show 1<=ao;decide),?_⟩;refine⟨_,rfl,_,rfl,a,Cx,rfl,c,l,.inl ⟨i,fun d m j=>?_⟩⟩;refine k d _ aa (by rw[am j,aa]) j fun b o e n=>?_;rw[am n,am (fun z=>by rw[z,m]at e;cases e)];exact e
open Classical in
theorem Hu{K:Za}{H:Hp}{l m:Addr}{a b:Zb}{Q:VK}(e:H l=some (.lst (a.map V.str)))(f:H m=some (.lst (b.map V.str)))(k:Q (.bl (!decide (a=b))) H):Hc K (.ref l) (.ref m) H Q:=by
 refine⟨.s (a.map bx),.s (b.map bx),o6 (aA.of e),o6 (aA.of f),?_,?_,?_⟩
 ·show DT.depths _+1<=8;rw[bZ];decide
 ·show DT.depths _+1<=8;rw[bZ];decide
 ·rw[decide_eq_decide.mpr (show DT.s (a.map bx)=DT.s (b.map bx)↔a=b from⟨fun h=>gW (by injection h),fun h=>by rw[h]⟩)];exact k
def z5(ws:Zb):Bool:=if ws.length=3 then decide (ws[1]?=some ("still":Str))else decide (ws.length=4/\(ws[1]?=some ("ask":Str)∨ws[1]?=some ("say":Str)))
def fC(n:Nat)(ws:Zb):Bool:=if("":Str)∈ws then false else if n<3 then decide (1<ws.length/\ws[0]?=fB[n]?)else z5 ws
def cz:Nat->List (List Str)->Option Nat
 |_,[]=>none
 |n,r::rs=>if fC n r=true then cz (n+1) rs else some n
inductive kg(vs:List V)(H:Hp)(Q:VK)(E:XK):Prop
 |mk (l:Addr) (h:Str) (ws:Zb):(vs=[.ref l,.str h])->(H l=some (.lst (ws.map V.str)))->(Q (.bl (decide (1<ws.length/\ws[0]?=some h))) H)->kg vs H Q E
theorem A5{K:Za}{e:List V}{H:Hp}{Q:VK}{E:XK}(h:kg e H Q E):Dp K (bJ Q) (start Ej e) H:=by
 obtain⟨l,h,a,rfl,f,k⟩:=h;refine⟨_,rfl,.inl ⟨l,_,rfl,.inl (aA.of f),_,_,rfl,rfl,_,rfl,?_⟩⟩;rw[aq];refine dz (fun q=>?_) (fun q=>?_)
 ·have q:(1:Int)<a.length:=of_decide_eq_true q;cases a with
  |nil=>exact absurd q (by decide)
  |cons w a =>
   refine⟨_,rfl,l,_,0,_,rfl,rfl,aA.of f,bW (j:=0) rfl,_,rfl,rfl,?_⟩;have:decide (1<(w::a).length/\(w::a)[0]?=some h)=decide (V.str w=V.str h):=decide_eq_decide.mpr ⟨fun z=>by have:=z.2;simp at this;rw[this],fun z=>⟨by omega,by injection z with z;rw[z];rfl⟩⟩;rw[<-this];exact k
 ·have q:¬(1:Int)<a.length:=fun z=>q (zzr1 z);rw[zzr0 (fun z=>q (by have:=z.1;omega))]at k;exact k
inductive kh(vs:List V)(H:Hp)(Q:VK)(E:XK):Prop
 |mk (l:Addr) (ws:Zb):(vs=[.ref l])->(H l=some (.lst (ws.map V.str)))->(∀H',ae H H'->Q (.bl (z5 ws)) H')->kh vs H Q E
theorem yb{a b:Nat}:decide (V.int (a:Nat)=V.int (b:Nat))=decide (a=b):=decide_eq_decide.mpr ⟨fun h=>by injection h with h;omega,fun h=>by rw[h]⟩
theorem A6{K:Za}{m:List V}{H:Hp}{Q:VK}{E:XK}(h:kh m H Q E):Dq K (bJ Q) (start Ek m) H:=by
 obtain⟨l,a,rfl,i,k⟩:=h;unfold z5 at k;refine⟨_,rfl,.inl ⟨l,_,rfl,.inl (aA.of i),rfl,_,rfl,?_⟩⟩;rw[aq,show(V.int 3)=V.int (3:Nat)from rfl,yb];refine dz (fun q=>?_) (fun q=>?_)
 ·have q:a.length=3:=of_decide_eq_true q;obtain⟨w,g⟩:∃w,a[1]?=some w:=⟨_,ef (by omega)⟩;refine⟨_,rfl,l,_,1,.str w,rfl,rfl,aA.of i,bW (j:=1) (by rw[bD,g];rfl),rfl,?_⟩;have:decide (V.str w=V.str ("still":Str))=decide (a[1]?=some ("still":Str)):=decide_eq_decide.mpr (by rw[g];exact⟨fun z=>by injection z with z;rw[z],fun z=>by injection z with z;rw[z]⟩);rw[this];have k:=k H (ae.refl _);rw[if_pos q]at k;exact k
 ·have q:¬a.length=3:=fun z=>q (zzr1 z);refine⟨_,rfl,.inl ⟨l,_,rfl,.inl (aA.of i),rfl,_,rfl,?_⟩⟩;rw[aq,show(V.int 4)=V.int (4:Nat)from rfl,yb];refine dz (fun f=>?_) (fun f=>?_)
  ·have f:a.length=4:=of_decide_eq_true f;obtain⟨w,g⟩:∃w,a[1]?=some w:=⟨_,ef (by omega)⟩;refine⟨_,rfl,l,_,1,.str w,rfl,rfl,aA.of i,bW (j:=1) (by rw[bD,g];rfl),(by show 2<=ao;decide),fun t n=>?_⟩;refine⟨bx w,[("ask":Str),"say"].map bx,t,_,jm _,rfl,.inr (cq.of aa),f6 [("ask":Str),"say"],cf _,by rw[bZ];decide,?_⟩;have:decide (bx w∈[("ask":Str),"say"].map bx)=decide (a.length=4/\(a[1]?=some ("ask":Str)∨a[1]?=some ("say":Str))):=decide_eq_decide.mpr (by
    rw[g];constructor
    ·intro z;obtain⟨v,hv,e⟩:=aR.mp z;have:v=w:=by unfold bx at e;injection e with e;injection e
     subst this;refine⟨f,?_⟩;rcases bw.mp hv with rfl|hv
     ·exact .inl rfl
     ·have:v="say":=by simpa using hv
      rw[this];exact .inr rfl
    ·rintro⟨_,z|z⟩
     ·injection z with z;rw[z];simp
     ·injection z with z;rw[z];simp)
   show Q (.bl (if false=true then _ else decide (bx w∈[("ask":Str),"say"].map bx))) _
   rw[this];simp only[if_neg q]at k;exact k _ (ae.new n)
  ·have f:¬a.length=4:=fun z=>f (zzr1 z);have k:=k H (ae.refl _);rw[if_neg q,zzr0 (fun z=>f z.1)]at k;exact k
inductive lW(vs:List V)(H:Hp)(Q:VK)(E:XK):Prop
 |mk (l:Addr) (n:Nat) (ws:Zb):(vs=[.ref l,.int n])->(H l=some (.lst (ws.map V.str)))->(∀H',ae H H'->Q (.bl (fC n ws)) H')->lW vs H Q E
theorem Ga{w:Str}{a:Zb}:decide (bx w∈a.map bx)=decide (w∈a):=decide_eq_decide.mpr ⟨fun z=>by
  obtain⟨v,f,e⟩:=aR.mp z;have:v=w:=by unfold bx at e;injection e with e;injection e
  rw[<-this];exact f,fun z=>aR.mpr ⟨w,z,rfl⟩⟩
theorem Dz{K:Za}{e:Addr}(c:∀H,cq K H e (fB.map V.str)){g:List V}{H:Hp}{Q:VK}{E:XK}(h:lW g H Q E):EH K e kg kh (bJ Q) (start Gx g) H:=by
 obtain⟨l,n,a,rfl,f,k⟩:=h;unfold fC at k;refine⟨_,rfl,bx "",a.map bx,l,_,jm _,rfl,.inl (aA.of f),f6 a,cf _,by rw[bZ];decide,_,rfl,?_⟩;show if(if false=true then _ else decide (bx ""∈a.map bx))=true then _ else _
 rw[Ga];show if decide (("":Str)∈a)=true then _ else _
 refine dz (fun q=>?_) (fun q=>?_)
 ·have k:=k H (ae.refl _);rw[if_pos (of_decide_eq_true q)]at k;exact k
 ·have q:¬("":Str)∈a:=fun z=>q (zzr1 z);rw[if_neg q]at k;refine⟨_,rfl,.inl ⟨e,_,rfl,.inr (c H),_,_,rfl,rfl,_,rfl,?_⟩⟩;refine dz (fun q=>?_) (fun q=>?_)
  ·have q:(n:Int)<3:=of_decide_eq_true q;obtain⟨hd,i⟩:∃hd,fB[n]?=some hd:=⟨_,ef (by show n<3;omega)⟩;have k:=k H (ae.refl _);rw[if_pos (by omega),i]at k;exact⟨_,rfl,_,rfl,e,_,(n:Int),.str hd,rfl,rfl,c H,bW (j:=n) (by rw[bD,i];rfl),l,hd,a,rfl,f,k⟩
  ·have q:¬(n:Int)<3:=fun z=>q (zzr1 z);rw[if_neg (by omega)]at k;exact⟨_,rfl,l,a,rfl,f,k⟩
def Ka(Ck:Addr)(n:Nat)(H H':Hp)(e:Addr):Prop:=ae H H'/\∃d,H' e=some (.ext (ib e Ck (some d)))/\H' d=some (.ext (iU d [("number",.int (n:Nat))]))
theorem zD{a:Addr}{W:L2.St->XK}{D:iw}{σ:L2.St}{H:Hp}{h:TE}{n:Nat}(i:∀Q:VK,Q (.int (n:Nat)) H->h σ H Q)(k:∀e f,Ka a n H f e->W σ (.ref a) (some e) f):
  lU a (p_ a "number") (ay h bS) W D σ H:=by
 refine i _ ⟨(by show 1<=ao;decide),fun e j=>⟨e,_,rfl,aa,fun d f l m p kp=>⟨rfl,some d,l,k e _ ⟨fun b o q=>?_,d,aa,by rw[am p];exact m⟩⟩⟩⟩;have g:b≠e:=ah q j;rw[am g];exact kp b o (by rw[am g];exact q) g
theorem Gs{rows:List (List Str)}{i:Nat}{r:Zb}(a:rows[i]?=some r)(h:cz 0 rows=cz i (rows.drop i)):cz 0 rows=if fC i r=true then cz (i+1) (rows.drop (i+1))else some i:=by
 obtain⟨hi,rfl⟩:=dg.mp a;rw[h,j4 hi]
 rfl
def iH(rows:List (List Str))(rest:Str):Option Nat:=match cz 0 rows with
 |some n=>some n
 |none=>if rest=""/\3<=rows.length then none else some rows.length
inductive ij(Cn:Addr)(vs:List V)(H:Hp)(Q:VK)(E:XK):Prop
 |mk (l:Addr) (us:Ze) (rows:List (List Str)) (rest:Str):(vs=[.ref l,.str rest])->(H l=some (.lst (us.map V.ref)))->(h_ H us rows)->(iH rows rest=none->∀H',ae H H'->Q .non H')->(∀n,iH rows rest=some n->∀e H',Ka Cn n H H' e->E (.ref Cn) (some e) H')->ij Cn vs H Q E
theorem Ka.pre{a:Addr}{n:Nat}{H f g:Hp}{e:Addr}(h:Ka a n f g e)(S:ae H f):Ka a n H g e:=⟨S.trans h.1,h.2⟩
theorem xJ{K:Za}{B Cn:Addr}(c:∀H,cq K H B (fB.map V.str)){J:List V}{H:Hp}{Q:VK}{E:XK}(h:ij Cn J H Q E):w6 K B Cn (p_ Cn "number") lW (fun _=>E) (bJ Q) (start Af J) H:=by
 obtain⟨l,N,rows,a,rfl,t,R,k,L⟩:=h;have C:=Paired.length R;refine⟨_,rfl,l,rfl,⟨_,aA.of t⟩,?_⟩;refine fz (xs:=N.map V.ref) (fun i σ o=>∃x y,σ=[some (.ref l),some (.str a),x,y]/\ae H o/\cz 0 rows=cz i (rows.drop i)) ⟨_,_,rfl,ae.refl _,rfl⟩ (fun i σ o _ O=>by obtain⟨_,_,_,S,_⟩:=O;exact aA.of (S _ _ t)) ?_ ?_
 ·rintro i v σ j p hi ⟨x,y,rfl,S,m⟩ T;obtain⟨u,U,rfl⟩:=dj hi;obtain⟨r,D,G⟩:=Paired.getL R U;have f:=Gs D m;have w:ae H (upd j p (.tup [.int i,.ref u])):=S.trans (ae.new T);refine⟨p,_,rfl,cq.of aa,rfl,_,_,rfl,_,_,rfl,rfl,?_⟩;generalize upd j p (.tup [.int i,.ref u])=Y at w ⊢;refine⟨_,rfl,_,rfl,u,i,r,rfl,w _ _ G,fun H3 M=>⟨_,rfl,?_⟩⟩;cases g:fC i r with
  |true =>
   rw[g,if_pos rfl]at f;exact bC ⟨_,_,rfl,w.trans M,f⟩
  |false =>
   rw[g,if_neg (by decide)]at f;refine bI (zD (n:=i) (fun Q q=>⟨_,rfl,q⟩) fun e o I=>L i (by unfold iH;rw[f]) e o (I.pre (w.trans M)))
 ·rintro σ j ⟨x,y,rfl,S,m⟩;rw[aq,C,kR]at m;have m:cz 0 rows=none:=m;have D:∀Q:VK,Q (.int (rows.length:Nat)) j->du (cD K) (aF V0) [some (.ref l),some (.str a),x,y] j Q:=fun Q q=>⟨_,rfl,.inl ⟨l,_,rfl,.inl (aA.of (S _ _ t)),by rw[aq,C];exact q⟩⟩;have s:¬(a=""/\3<=rows.length)->lU Cn (p_ Cn "number") (aF (du (cD K) (aF V0))) (fun _=>E) (bJ Q) [some (.ref l),some (.str a),x,y] j:=fun z =>
   zD (n:=rows.length) D fun e o I=>L _ (by unfold iH;rw[m];exact if_neg z) e o (I.pre S)
  refine⟨_,rfl,rfl,_,rfl,?_⟩;by_cases e:a=""
  ·rw[zzr1 (by rw[e])];refine bC ⟨_,rfl,.inl ⟨l,_,rfl,.inl (aA.of (S _ _ t)),.inl ⟨B,_,rfl,.inr (c j),_,_,rfl,rfl,_,rfl,?_⟩⟩⟩;rw[aq,C];refine dz (fun q=>?_) (fun q=>?_)
   ·have q:(rows.length:Int)<3:=of_decide_eq_true q;exact s (fun z=>by have:=z.2;omega)
   ·have q:¬(rows.length:Int)<3:=fun z=>q (zzr1 z);exact k (by unfold iH;rw[m];exact if_pos ⟨e,by omega⟩) _ S
  ·rw[zzr0 (fun z=>e (by injection z))];exact bI (bI (s fun z=>e z.1))
theorem DW{n:Nat}(f:¬n<3){e:Zb}(h:fC n e=true):∃d:av,e=a_ d/\(d.sg.length=1∨d.sg.length=2):=by
 unfold fC at h;split at h
 ·cases h
 ·unfold z5 at h;split at h
  ·rename_i q
   match e,q with
   |[a,b,c],_=>exact⟨⟨a,[b],c⟩,rfl,.inl rfl⟩
  ·have:=(of_decide_eq_true h).1
   match e,this with
   |[a,b,c,d],_=>exact⟨⟨a,[b,c],d⟩,rfl,.inr rfl⟩
theorem uw:∀{rows:List (List Str)}{n:Nat},¬n<3->cz n rows=none->∃a:List av,rows=a.map a_/\∀d∈a,d.sg.length=1∨d.sg.length=2
 |[],n,_,_=>⟨[],rfl,by simp⟩
 |r::j,n,hn,h=>by
  unfold cz at h;split at h
  ·rename_i g;obtain⟨d,e,s⟩:=DW hn g;obtain⟨a,f,i⟩:=uw (show ¬n+1<3 by omega) h;refine⟨d::a,by rw[aS,e,f],fun x hx=>?_⟩;rcases bw.mp hx with rfl|hx
   ·exact s
   ·exact i x hx
  ·cases h
theorem qx{n:Nat}{e:Str}{a:Zb}(f:fB[n]?=some e)(h:fC n a=true)(i:n<3):∃g,a=e::g:=by
 unfold fC at h;split at h
 ·cases h
 ·have:=(of_decide_eq_true h).2;cases a with
  |nil=>rw[f]at this;cases this
  |cons w a=>rw[f]at this;have:w=e:=(by simpa using this);exact⟨a,by rw[this]⟩
theorem wb{rows:List (List Str)}{e:Str}(h:iH rows e=none):e=""/\∃g i j f,rows=bG g i j f/\∀d∈f,d.sg.length=1∨d.sg.length=2:=by
 unfold iH at h;split at h
 ·cases h
 ·rename_i a;split at h
  ·rename_i q;refine⟨q.1,?_⟩
   match rows,q.2,a with
   |r0::o::p::r,_,a =>
    unfold cz at a;split at a
    ·rename_i k;unfold cz at a;split at a
     ·rename_i l;unfold cz at a;split at a
      ·rename_i m;obtain⟨g,rfl⟩:=qx (n:=0) rfl k (by decide);obtain⟨i,rfl⟩:=qx (n:=0+1) rfl l (by decide);obtain⟨j,rfl⟩:=qx (n:=0+1+1) rfl m (by decide);obtain⟨f,rfl,s⟩:=uw (by decide) a;exact⟨g,i,j,f,rfl,s⟩
      ·cases a
     ·cases a
    ·cases a
  ·cases h
abbrev Gv(x:Str):Prop:=TB 1000 98 900 1000000 x.cps.toList
theorem TB.few{x:Str}{f g i:Zb}{k:List av}(h:Gv x)(e:dC x=bG f g i k):GF f g i k/\k.length<=900:=by
 obtain⟨q,t⟩:=h.lines;have o:(dC x).length+1<=901:=by
  unfold dC;rw[aq];have:=q;rw[gR,aV]at this;exact this
 rw[e,oH]at o;have n:∀r∈bG f g i k,r.length<=99/\∀w∈r,w.length<=1000:=fun r n=>by
  rw[<-e]at n;obtain⟨l,o,rfl⟩:=aR.mp n;have:=t l (by rw[gR];exact cL _ o);exact this.2
 have p:∀r∈bo f g i,r.length<=99/\∀w∈r,w.length<=1000:=fun r h=>n r (cL _ h);have a:=p (("asks":Str)::f) (by simp[bo]);have s:=p (("says":Str)::g) (by simp[bo]);have m:=p (("rooms":Str)::i) (by simp[bo]);simp only[bP]at a s m;exact⟨⟨by omega,by omega,by omega,by omega,fun w j=>a.2 w (bQ _ j),fun w j=>s.2 w (bQ _ j),fun w j=>m.2 w (bQ _ j)⟩,by omega⟩
inductive ou(C Cx Cn:Addr)(vs:List V)(H:Hp)(Q:VK)(E:XK):Prop
 |mk (x:Str):(vs=[.str x])->(Gv x)->(∀n,iH (dC x) (fx x)=some n->∀e H',Ka Cn n H H' e->E (.ref Cn) (some e) H')->(∀J0 J4 J5 ds,fx x=""->dC x=bG J0 J4 J5 ds->Gw ds->GF J0 J4 J5 ds->ds.length<=900->iH (dC x) (fx x)=none->∃o,eD J0 J4 J5 ds o/\(o=none->∀y H',Al C H' y J0 J4 J5 ds->ae H H'->Q (.ref y) H')/\(∀p n,o=some (p,n)->∀a H',Kb Cx H' a (.str p) (.int (n:Nat))->ae H H'->E (.ref Cx) (some a) H'))->ou C Cx Cn vs H Q E
theorem Fa{K:Za}{C Cx Cn aH:Addr}(c:∀H,cq K H aH (fB.map V.str)){k:List V}{H:Hp}{Q:VK}{E:XK}(h:ou C Cx Cn k H Q E):GY K aH lX C (oB C Cx) (ij Cn) (fun _=>E) (bJ Q) (start JU k) H:=by
 obtain⟨x,rfl,tb,kn,km⟩:=h;obtain⟨z1,z2⟩:=tb.lines;have za:=tb.all;rw[<-aZ]at za;have zl:(cQ x).length<=900:=by have:=z1;rw[gR,aV]at this;simp at this;exact this
 refine⟨_,rfl,rfl,_,_,rfl,rfl,(by decide +kernel),aP za (aP (by decide) rF),c6 (bb (by omega)),?_⟩;rw[gR];intro l hl;have S1:ae H (upd H l (.lst ((cQ x++[fx x]).map V.str))):=ae.new hl;have e1:upd H l (.lst ((cQ x++[fx x]).map V.str)) l=some (.lst ((cQ x).map V.str++[.str (fx x)])):=by rw[aa,aK];rfl
 generalize upd H l (.lst ((cQ x++[fx x]).map V.str))=H1 at S1 e1 ⊢;refine⟨_,rfl,_,rfl,_,rfl,l,_,rfl,aA.of e1,fun q hq=>?_⟩;rw[uE];have S2:ae H1 (upd H1 q (.lst ((cQ x).map V.str))):=ae.new hq;have e2:upd H1 q (.lst ((cQ x).map V.str)) q=some (.lst ((cQ x).map V.str)):=aa;generalize upd H1 q (.lst ((cQ x).map V.str))=H2 at S2 e2 ⊢;refine⟨q,rfl,⟨_,aA.of e2⟩,fun f hf=>?_⟩;refine cU (xs:=(cQ x).map V.str) (fun i k j=>∃m:List Addr,k=m.map V.ref/\pb f j m ((dC x).take i)/\ae H2 j/\j f=some (.lst k)) ⟨[],rfl,.nil,ae.new hf,aa⟩ (fun i k j _ zq=>by obtain⟨_,_,_,S,h'⟩:=zq;exact⟨h',aA.of (S _ _ e2)⟩) ?_ ?_;rotate_left
 ·rintro i k j y hx hi ⟨m,rfl,R,S,f'⟩;obtain⟨t,ht,rfl⟩:=dh hx;have hr:(dC x)[i]?=some (bE t " "):=by unfold dC;rw[bD,ht];rfl
  have zt:=z2 t (by rw[gR];exact cL _ (ca ht));refine gN (pO ⟨_,rfl,rfl,_,_,rfl,rfl,(by decide +kernel),c6 (bb (by omega)),c6 (bb (by omega)),?_⟩);intro u s;have nu:u≠f:=fun z=>by rw[z,f']at s;cases s
  refine⟨kp f' s,?_,uf hi ⟨m++[u],by rw[aK];rfl,?_,?_,aa⟩⟩
  ·rw[aq,Paired.length R,aL];exact bb (by unfold dC;rw[aq];omega)
  ·rw[take_snoc hr];exact R.add (ae.new s) nu aa
  ·intro b o e;rw[am (ah e hf)];exact kp (S _ _ e) s
 rintro k H3 ⟨m,rfl,R3,S3,f3⟩;rw[aq,show(cQ x).length=(dC x).length by unfold dC;rw[aq],cO]at R3;have R3:=R3.at_;refine⟨_,rfl,_,rfl,_,rfl,l,_,-1,.str (fx x),rfl,rfl,aA.of (S3 _ _ (S2 _ _ e1)),uM _ _,?_⟩;refine⟨f,m,dC x,fx x,rfl,f3,R3,fun tv H4 S4=>?_,fun n hn e j xe=>kn n hn e j (xe.pre ((S1.trans S2).trans S3))⟩;obtain⟨re,N,O,T,ds,er,sg⟩:=wb tv;obtain⟨F,zd⟩:=tb.few er;obtain⟨o,v,ko,ke⟩:=km N O T ds re er sg F zd tv;have f4:=S4 _ _ f3;have R4:=R3.same S4;have al:ae H H4:=((S1.trans S2).trans S3).trans S4;clear S1 S2 S3 S4 e1 e2 f3 R3;rw[er]at R4;obtain⟨B,G,I,w,rfl,h0,h1,h2,RD⟩:=tZ R4;refine⟨_,rfl,.inl ⟨aH,_,rfl,.inr (c H4),_,rfl,f,_,rfl,aA.of f4,fun q hq=>?_⟩⟩;have ec:dq ((B::G::I::w).map V.ref) none (some (((fB.map V.str).length:Nat):Int))=[B,G,I].map V.ref:=by
  rw[z8];rfl
 rw[ec];have U:ae H4 (upd H4 q (.lst ([B,G,I].map V.ref))):=ae.new hq;have e5:upd H4 q (.lst ([B,G,I].map V.ref)) q=some (.lst ([B,G,I].map V.ref)):=aa;generalize upd H4 q (.lst ([B,G,I].map V.ref))=H5 at U e5 ⊢;have R5:h_ H5 [B,G,I] [("asks":Str)::N,("says":Str)::O,("rooms":Str)::T]:=.cons (U _ _ h0) (.cons (U _ _ h1) (.cons (U _ _ h2) .nil));refine⟨q,rfl,⟨_,aA.of e5⟩,fun g hg=>?_⟩;refine cU (xs:=[B,G,I].map V.ref) (fun i k j=>∃m:List Addr,k=m.map V.ref/\pb g j m ([N,O,T].take i)/\ae H5 j/\j g=some (.lst k)) ⟨[],rfl,.nil,ae.new hg,aa⟩ (fun i k j _ zq=>by obtain⟨_,_,_,S,h'⟩:=zq;exact⟨h',aA.of (S _ _ e5)⟩) ?_ ?_;rotate_left
 ·rintro i k j y hx hi ⟨m,rfl,R,S,g'⟩;obtain⟨t,ht,rfl⟩:=dj hx;obtain⟨r,hr,Y⟩:=Paired.getL R5 ht;obtain⟨a,r',er,an⟩:∃(a:Str) (r':Zb),r=a::r'/\[N,O,T][i]?=some r':=by
   have hi:i<3:=hi;have:i=0∨i=1∨i=2:=by omega
   rcases this with rfl|rfl|rfl<;>cases hr<;>exact⟨_,_,rfl,rfl⟩
  subst er;refine gN (pO ⟨_,rfl,_,rfl,t,_,rfl,aA.of (S _ _ Y),?_⟩);rw[show(1:Int)=((1:Nat):Int)from rfl,qD];show ∀p,j p=none->_;intro u s;have nu:u≠g:=fun z=>by rw[z,g']at s;cases s
  refine⟨kp g' s,?_,uf hi ⟨m++[u],by rw[aK];rfl,?_,?_,aa⟩⟩
  ·rw[aq,Paired.length R,aL];exact bb (by show min i 3<=_;omega)
  ·rw[take_snoc an];exact R.add (ae.new s) nu aa
  ·intro b o e;rw[am (ah e hg)];exact kp (S _ _ e) s
 rintro k J ⟨m,rfl,R6,S6,g6⟩;have R6:h_ J m [N,O,T]:=R6.at_;obtain⟨v0,v1,v2,rfl,k0,k1,k2⟩:∃v0 v1 v2,m=[v0,v1,v2]/\J v0=some (.lst (N.map V.str))/\J v1=some (.lst (O.map V.str))/\J v2=some (.lst (T.map V.str)):=by
  cases R6 with
  |cons a R=>cases R with
   |cons b R=>cases R with
    |cons d R=>cases R with
     |nil=>exact⟨_,_,_,rfl,a,b,d⟩
 refine⟨g,_,rfl,aA.of g6,rfl,_,_,rfl,_,_,rfl,_,_,rfl,rfl,?_⟩;refine⟨_,rfl,_,rfl,_,rfl,_,rfl,.inl ⟨aH,_,rfl,.inr (c J),_,rfl,f,_,rfl,aA.of (S6 _ _ (U _ _ f4)),fun q' ap=>?_⟩⟩;have as:dq ((B::G::I::w).map V.ref) (some (((fB.map V.str).length:Nat):Int)) none=w.map V.ref:=by
  rw[uF];rfl
 rw[as];have S7:ae J (upd J q' (.lst (w.map V.ref))):=ae.new ap;have e7:upd J q' (.lst (w.map V.ref)) q'=some (.lst (w.map V.ref)):=aa;generalize upd J q' (.lst (w.map V.ref))=H7 at S7 e7 ⊢;have ai:h_ H7 w (ds.map a_):=((RD.same U).same S6).same S7;have aC:w.length=ds.length:=by rw[Paired.length ai,aq]
 refine⟨q',rfl,⟨_,aA.of e7⟩,fun d hd=>?_⟩;refine cU (xs:=w.map V.ref) (fun i k j=>∃ts:List Addr,k=ts.map V.ref/\dE j ts (ds.take i)/\ae H7 j/\j d=some (.lst k)) ⟨[],rfl,.nil,ae.new hd,aa⟩ (fun i k j _ zq=>by obtain⟨_,_,_,S,h'⟩:=zq;exact⟨h',aA.of (S _ _ e7)⟩) ?_ ?_;rotate_left
 ·rintro i k j y hx hi ⟨ts,rfl,D,S,d'⟩;obtain⟨t,ht,rfl⟩:=dj hx;obtain⟨r,hr,Y⟩:=Paired.getL ai ht;rw[bD]at hr;obtain⟨dr,aj,rfl⟩:=pG.mp hr;refine gN (pO ⟨_,rfl,t,dr,rfl,S _ _ Y,?_,fun u H8 aT L=>?_⟩)
  ·have:=sg dr (ca aj);omega
  have aX:=S.trans L;refine⟨L _ _ d',?_,uf hi ⟨ts++[u],by rw[aK];rfl,?_,?_,aa⟩⟩
  ·rw[aq,Paired.length D,aL];exact bb (by omega)
  ·rw[take_snoc aj];exact Paired.app ((D.kt (ae.kt L)).kt (jz (L _ _ d'))) (.cons (aT.kt (jz (L _ _ d'))) .nil)
  ·intro b o e;rw[am (ah e hd)];exact aX _ _ e
 rintro k H8 ⟨ts,rfl,D8,L,d8⟩;rw[aq,aC,cO]at D8;refine fun y dx hx a0 a4=>?_;have a5:upd H8 dx (.own y) y=none:=by rw[am a4.symm];exact hx
 have S9:ae H8 (upd (upd H8 dx (.own y)) y (.ins C dx [])):=(ae.new a0).trans (ae.new a5);have ak:ae H H8:=(((al.trans U).trans S6).trans S7).trans L;have ab:=S7.trans L;have ext:∀j,cV y (upd (upd H8 dx (.own y)) y (.ins C dx [])) j->ae H j:=fun j ex b o e=>ex _ _ (S9 _ _ (ak _ _ e)) (ah (ak _ _ e) hx);exact⟨y,dx,v0,v1,v2,d,ts,N,O,T,ds,o,rfl,aa,⟨S9 _ _ (ab _ _ k0),S9 _ _ (ab _ _ k1),S9 _ _ (ab _ _ k2),S9 _ _ d8,D8.kt (ae.kt S9)⟩,F,v,fun ho j M ex=>⟨rfl,ko ho y j M (ext j ex)⟩,fun p n ho a j xa ex=>ke p n ho a j xa (ext j ex)⟩
inductive jg(vs:List V)(H:Hp)(Q:VK)(E:XK):Prop
 |mk (l:Addr) (n:Nat) (ws:Zb):(vs=[.int n,.ref l])->(H l=some (.lst (ws.map V.str)))->(ws≠[])->(ws.length<=1000)->(∀H',ae H H'->Q (.bl (fC n ws)) H')->jg vs H Q E
theorem zC{K:Za}{s:List V}{H:Hp}{Q:VK}{E:XK}(h:jg s H Q E):tJ K (bJ Q) (start uR s) H:=by
 obtain⟨l,n,a,rfl,m,T,wz,k⟩:=h;unfold fC at k;refine⟨_,rfl,l,rfl,⟨_,aA.of m⟩,fun f hf=>?_⟩;refine cU (xs:=a.map V.str) (fun i s y=>s=((a.take i).filter fun(w:Str)=>decide (w=("":Str))).map V.str/\ae H y/\y f=some (.lst s)) ⟨rfl,ae.new hf,aa⟩ (fun i s y _ U=>by obtain⟨_,S,Y⟩:=U;exact⟨Y,aA.of (S _ _ m)⟩) ?_ ?_;rotate_left
 ·rintro i s y x hx hi ⟨rfl,S,G⟩;obtain⟨w,r,rfl⟩:=dh hx;refine gN ⟨_,rfl,rfl,_,rfl,?_⟩;have e:decide (V.str w=V.str ("":Str))=decide (w=("":Str)):=decide_eq_decide.mpr ⟨fun z=>by injection z,fun z=>by rw[z]⟩;rw[e];refine dz (fun q=>?_) (fun q=>?_)
  ·refine⟨_,rfl,G,?_,uf hi ⟨?_,?_,aa⟩⟩
   ·rw[aq];refine bb (aP (jW _ _) ?_);rw[aL];omega
   ·rw[jk r,if_pos q,aK];rfl
   ·intro b o e;rw[am (ah e hf)];exact S _ _ e
  ·refine uf hi ⟨?_,S,G⟩;rw[jk r,if_neg q,dA]
 rintro s I ⟨rfl,S1,J⟩;rw[aq,cO]at J;refine⟨(by show 0<=ao;decide),fun g L=>?_⟩;have u:ae H (upd I g (.lst [])):=S1.trans (ae.new L);refine Hu (b:=[]) (kp J L) aa ⟨_,rfl,?_⟩;generalize upd I g (.lst [])=M at u ⊢;by_cases e:("":Str)∈a
 ·rw[zzr0 (fun z=>List.filter_eq_nil_iff.mp z _ e (zzr1 rfl))];have k:=k M u;rw[if_pos e]at k;exact bI k
 ·rw[zzr1 (List.filter_eq_nil_iff.mpr fun w r z=>e (by rw[<-of_decide_eq_true z];exact r))];simp only[if_neg e]at k;refine bC ?_;have m:=u _ _ m;refine⟨_,rfl,_,_,rfl,rfl,_,rfl,?_⟩;refine dz (fun q=>?_) (fun q=>?_)
  ·have q:(n:Int)<3:=of_decide_eq_true q;obtain⟨hd,N⟩:∃hd,fB[n]?=some hd:=⟨_,ef (by show n<3;omega)⟩;simp only[if_pos (show n<3 by omega),N]at k;cases a with
   |nil=>exact absurd rfl T
   |cons w a =>
    refine⟨_,rfl,l,_,0,.str w,rfl,rfl,aA.of m,bW (j:=0) rfl,(by show 3<=ao;decide),fun p O=>?_⟩;have S3:=u.trans (ae.new (o:=.lst [.str "asks",.str "says",.str "rooms"]) O);have D:=kp (x:=.lst [.str "asks",.str "says",.str "rooms"]) m O;refine⟨_,rfl,p,fB.map V.str,(n:Int),.str hd,rfl,rfl,aA.of aa,bW (j:=n) (by rw[bD,N];rfl),rfl,_,rfl,?_⟩;have k:=k _ S3;by_cases B:w=hd
    ·rw[zzr1 (by rw[B])];refine bI ⟨_,rfl,.inl ⟨l,_,rfl,.inl (aA.of D),_,_,rfl,rfl,?_⟩⟩;have:decide ((1:Int)<((((w::a).map V.str).length:Nat):Int))=decide (1<(w::a).length/\(w::a)[0]?=some hd):=decide_eq_decide.mpr ⟨fun z=>⟨by rw[aq]at z;omega,by rw[B];rfl⟩,fun z=>by have:=z.1;rw[aq];omega⟩;show Q (.bl (decide ((1:Int)<((((w::a).map V.str).length:Nat):Int)))) _;rw[this];exact k
    ·rw[zzr0 (fun z=>B (by injection z))];rw[zzr0 (fun z=>B (by have:=z.2;simpa using this))]at k;exact bC k
  ·have q:¬(n:Int)<3:=fun z=>q (zzr1 z);simp only[if_neg (show ¬n<3 by omega)]at k;unfold z5 at k;have k:=k M u;refine⟨_,rfl,.inl ⟨l,_,rfl,.inl (aA.of m),rfl,_,rfl,?_⟩⟩;rw[aq,show(V.int 3)=V.int (3:Nat)from rfl,yb];refine dz (fun q=>?_) (fun q=>?_)
   ·have q:a.length=3:=of_decide_eq_true q;obtain⟨w,r⟩:∃w,a[1]?=some w:=⟨_,ef (by omega)⟩;refine⟨_,rfl,l,_,1,.str w,rfl,rfl,aA.of m,bW (j:=1) (by rw[bD,r];rfl),rfl,?_⟩;have:decide (V.str w=V.str ("still":Str))=decide (a[1]?=some ("still":Str)):=decide_eq_decide.mpr (by rw[r];exact⟨fun z=>by injection z with z;rw[z],fun z=>by injection z with z;rw[z]⟩);rw[this];rw[if_pos q]at k;exact k
   ·have q:¬a.length=3:=fun z=>q (zzr1 z);rw[if_neg q]at k;refine⟨_,rfl,.inl ⟨l,_,rfl,.inl (aA.of m),rfl,_,rfl,?_⟩⟩;rw[aq,show(V.int 4)=V.int (4:Nat)from rfl,yb];refine dz (fun t=>?_) (fun t=>?_)
    ·have t:a.length=4:=of_decide_eq_true t;obtain⟨w,r⟩:∃w,a[1]?=some w:=⟨_,ef (by omega)⟩;have v:yF (a.map V.str) 1=some (.str w):=bW (j:=1) (by rw[bD,r];rfl);rw[r]at k;refine⟨_,rfl,l,_,1,.str w,rfl,rfl,aA.of m,v,rfl,_,rfl,?_⟩;by_cases C:w="ask"
     ·rw[zzr1 (by rw[C])];rw[zzr1 ⟨t,.inl (by rw[C])⟩]at k;exact bI k
     ·rw[zzr0 (fun z=>C (by injection z))];refine bC ⟨_,rfl,l,_,1,.str w,rfl,rfl,aA.of m,v,rfl,?_⟩;have:decide (V.str w=V.str ("say":Str))=decide (a.length=4/\(some w=some ("ask":Str)∨some w=some ("say":Str))):=decide_eq_decide.mpr ⟨fun z=>⟨t,.inr (by injection z with z;rw[z])⟩,fun z=>by rcases z.2 with z|z;(injection z with z;exact absurd z C);(injection z with z;rw[z])⟩;rw[this];exact k
    ·have t:¬a.length=4:=fun z=>t (zzr1 z);rw[zzr0 (fun z=>t z.1)]at k;exact k
inductive dW(vs:List V)(H:Hp)(Q:VK)(E:XK):Prop
 |mk (x:Str):(vs=[.str x])->(Gv x)->(∀n,iH (dC x) (fx x)=some n->∀t H',H' t=some (.tup [.str "text",.int (n:Nat)])->ae H H'->Q (.ref t) H')->(∀J0 J4 J5 ds,fx x=""->dC x=bG J0 J4 J5 ds->Gw ds->GF J0 J4 J5 ds->ds.length<=900->iH (dC x) (fx x)=none->∃o,eD J0 J4 J5 ds o/\(o=none->∀r l1 l2 l3 l4 ts H',H' r=some (.lst [.ref l1,.ref l2,.ref l3,.ref l4])->Lists H' l1 l2 l3 l4 ts J0 J4 J5 ds->ae H H'->Q (.ref r) H')/\(∀p n,o=some (p,n)->∀t H',H' t=some (.tup [.str p,.int (n:Nat)])->ae H H'->Q (.ref t) H'))->dW vs H Q E
theorem A1{K:Za}{L:List V}{H:Hp}{Q:VK}{E:XK}(h:dW L H Q E):tI K xE jg (bJ Q) (start uQ L) H:=by
 obtain⟨x,rfl,tb,kn,km⟩:=h;obtain⟨z1,z2⟩:=tb.lines;have za:=tb.all;rw[<-aZ]at za;have zl:(cQ x).length<=900:=by have:=z1;rw[gR,aV]at this;simp at this;exact this
 have zr:(dC x).length=(cQ x).length:=by unfold dC;rw[aq]
 refine⟨_,rfl,rfl,_,_,rfl,rfl,(by decide +kernel),aP za (aP (by decide) rF),c6 (bb (by omega)),?_⟩;rw[gR];intro l hl;have S1:ae H (upd H l (.lst ((cQ x++[fx x]).map V.str))):=ae.new hl;have e1:upd H l (.lst ((cQ x++[fx x]).map V.str)) l=some (.lst ((cQ x).map V.str++[.str (fx x)])):=by rw[aa,aK];rfl
 generalize upd H l (.lst ((cQ x++[fx x]).map V.str))=H1 at S1 e1 ⊢;refine⟨(by show 0<=ao;decide),fun f hf=>?_⟩;have S2:ae H1 (upd H1 f (.lst [])):=ae.new hf;have f2:upd H1 f (.lst []) f=some (.lst []):=aa;have nH:∀b o,H b=some o->b≠f:=fun b o e=>ah (S1 _ _ e) hf;have nl:l≠f:=ah e1 hf;generalize upd H1 f (.lst [])=H2 at S2 f2 ⊢;refine⟨_,rfl,_,rfl,_,rfl,l,_,rfl,aA.of (S2 _ _ e1),fun q hq=>?_⟩;rw[uE];have S3:ae H2 (upd H2 q (.lst ((cQ x).map V.str))):=ae.new hq;have e3:upd H2 q (.lst ((cQ x).map V.str)) q=some (.lst ((cQ x).map V.str)):=aa;have nq:q≠f:=(ah f2 hq).symm;generalize upd H2 q (.lst ((cQ x).map V.str))=H3 at S3 e3 ⊢;have ab:ae H H3:=(S1.trans S2).trans S3;refine⟨q,rfl,⟨_,aA.of e3⟩,?_⟩;refine fz (xs:=(cQ x).map V.str) (fun i σ k=>∃a b c M,σ=[some (.str x),some (.ref l),some (.ref f),a,b,c,none]/\cV f H3 k/\k f=some (.lst (M.map V.ref))/\pb f k M ((dC x).take i)/\cz 0 (dC x)=cz i ((dC x).drop i))
  ⟨_,_,_,[],rfl,fun b o e _=>e,S3 _ _ f2,.nil,rfl⟩ (fun i σ k _ zq=>by obtain⟨_,_,_,_,_,S,_⟩:=zq;exact aA.of (S _ _ e3 nq)) ?_ ?_
 ·rintro i v σ B p hi ⟨a,b,c,M,rfl,S,N,R,O⟩ hp;obtain⟨t,ht,rfl⟩:=dh hi;have C:(dC x)[i]?=some (bE t " "):=by unfold dC;rw[bD,ht];rfl
  have zt:=z2 t (by rw[gR];exact cL _ (ca ht));have J:=Gs C O;refine⟨p,_,rfl,cq.of aa,rfl,_,_,rfl,_,_,rfl,rfl,?_⟩;have T5:ae B (upd B p (.tup [.int i,.str t])):=ae.new hp;generalize upd B p (.tup [.int i,.str t])=H5 at T5 ⊢;refine⟨_,rfl,rfl,_,_,rfl,rfl,(by decide +kernel),c6 (bb (by omega)),c6 (bb (by omega)),fun u hu=>?_⟩;have nu:u≠f:=(ah (T5 _ _ N) hu).symm;have T6:ae B (upd H5 u (.lst ((bE t " ").map V.str))):=T5.trans (ae.new hu);have u6:upd H5 u (.lst ((bE t " ").map V.str)) u=some (.lst ((bE t " ").map V.str)):=aa;generalize upd H5 u (.lst ((bE t " ").map V.str))=H6 at T6 u6 ⊢;refine⟨_,rfl,_,rfl,u,i,_,rfl,u6,jJ _ _,by omega,fun H7 I=>⟨_,rfl,?_⟩⟩;have T7:=T6.trans I;have X7:cV f H3 H7:=fun b o e n=>T7 _ _ (S _ _ e n);cases g:fC i (bE t " ")with
  |false =>
   rw[g,if_neg (by decide)]at J;refine bI ⟨_,rfl,(by show 2<=ao;decide),fun r C=>?_⟩;exact kn i (by unfold iH;rw[J]) r _ aa fun b o e=>kp (X7 _ _ (ab _ _ e) (nH _ _ e)) C
  |true =>
   rw[g,if_pos rfl]at J;refine bC ⟨_,rfl,.inl ⟨rfl,_,aA.of (T7 _ _ N)⟩,_,rfl,f,M.map V.ref,.ref u,rfl,rfl,T7 _ _ N,?_,?_⟩
   ·rw[aq,Paired.length R,aL];exact bb (by omega)
   refine⟨_,_,_,M++[u],rfl,fun b o e n=>by rw[am n];exact X7 _ _ e n,by rw[aa,aK];rfl,?_,J⟩;rw[take_snoc C];exact R.add T7 nu (I _ _ u6)
 ·rintro σ B ⟨a,b,c,M,rfl,S,N,R,O⟩;rw[aq,<-zr,kR]at O;rw[aq,<-zr,cO]at R;have O:cz 0 (dC x)=none:=O;have lu:M.length=(dC x).length:=Paired.length R;have ai:ae H B:=fun b o e=>S _ _ (ab _ _ e) (nH _ _ e);have l4:=S _ _ (S3 _ _ (S2 _ _ e1)) nl;have Y:¬(fx x=""/\3<=(dC x).length)->bf (d7 (ba (tC (.str "text")) (du (cD K) (aF V2)))) (bJ Q) [some (.str x),some (.ref l),some (.ref f),a,b,c,none] B:=fun z=>by
   refine⟨_,rfl,.inl ⟨f,_,rfl,.inl (aA.of N),(by show 2<=ao;decide),fun r C=>?_⟩⟩;rw[aq,lu];exact kn _ (by unfold iH;rw[O];exact if_neg z) r _ aa (ai.trans (ae.new C))
  refine⟨_,rfl,.inl ⟨f,_,rfl,.inl (aA.of N),_,_,rfl,rfl,_,rfl,?_⟩⟩;rw[aq,lu];by_cases q3:(((dC x).length:Nat):Int)<3
  ·rw[zzr1 q3];exact bI (bI (Y fun z=>by have:=z.2;omega))
  rw[zzr0 q3];refine bC ⟨_,rfl,_,rfl,l,_,-1,.str (fx x),rfl,rfl,aA.of l4,uM _ _,rfl,_,rfl,?_⟩;by_cases e:fx x="";rotate_left
  ·rw[zzr0 (fun z=>e (by injection z))];exact bI (Y fun z=>e z.1)
  rw[zzr1 (by rw[e])];refine bC ?_;have tv:iH (dC x) (fx x)=none:=by unfold iH;rw[O];exact if_pos ⟨e,by omega⟩
  obtain⟨re,J0,J4,J5,ds,er,sg⟩:=wb tv;obtain⟨F,zd⟩:=tb.few er;obtain⟨o,v,ko,ke⟩:=km J0 J4 J5 ds re er sg F zd tv;have R4:h_ B M (bG J0 J4 J5 ds):=er▸R.at_;obtain⟨u0,u1,u2,w,rfl,h0,h1,h2,RD⟩:=tZ R4;clear R R4 O Y;refine⟨_,rfl,_,rfl,f,_,rfl,aA.of N,fun q' an=>?_⟩;have ap:dq ((u0::u1::u2::w).map V.ref) (some 3) none=w.map V.ref:=by
   rw[show(3:Int)=((3:Nat):Int)from rfl,uF];rfl
  rw[ap];have I:ae B (upd B q' (.lst (w.map V.ref))):=ae.new an;have e7:upd B q' (.lst (w.map V.ref)) q'=some (.lst (w.map V.ref)):=aa;generalize upd B q' (.lst (w.map V.ref))=H7 at I e7 ⊢;have aj:h_ H7 w (ds.map a_):=RD.same I;have as:w.length=ds.length:=by rw[Paired.length aj,aq]
  refine⟨q',rfl,⟨_,aA.of e7⟩,fun d hd=>?_⟩;refine cU (xs:=w.map V.ref) (fun i L k=>∃T:List Addr,L=T.map V.ref/\dE k T (ds.take i)/\ae H7 k/\k d=some (.lst L)) ⟨[],rfl,.nil,ae.new hd,aa⟩ (fun i L k _ zq=>by obtain⟨_,_,_,S,h'⟩:=zq;exact⟨h',aA.of (S _ _ e7)⟩) ?_ ?_;rotate_left
  ·rintro i L k y hx hi ⟨T,rfl,D,S,d'⟩;obtain⟨t,ht,rfl⟩:=dj hx;obtain⟨r,C,m⟩:=Paired.getL aj ht;rw[bD]at C;obtain⟨dr,aC,rfl⟩:=pG.mp C;have m:=S _ _ m;have len:((a_ dr).map V.str).length=dr.sg.length+2:=by rw[aq];simp[a_]
   refine gN (pO ⟨_,rfl,t,_,0,.str dr.a,rfl,rfl,aA.of m,bW (j:=0) rfl,?_⟩);refine⟨_,rfl,_,rfl,_,rfl,.inl ⟨t,_,rfl,.inl (aA.of m),_,_,rfl,rfl,_,rfl,t,_,rfl,aA.of m,fun g hg=>?_⟩⟩;have ec:dq ((a_ dr).map V.str) (some 1) (some ((((a_ dr).map V.str).length:Nat)-1:Int))=dr.sg.map V.str:=by
    rw[len,show(((dr.sg.length+2:Nat):Int)-1)=((dr.sg.length+1:Nat):Int) by omega,show(1:Int)=((1:Nat):Int)from rfl,D_ _ (by omega) (by simp[a_])];unfold a_;simp
   rw[ec];have T1:ae k (upd k g (.lst (dr.sg.map V.str))):=ae.new hg;have g1:upd k g (.lst (dr.sg.map V.str)) g=some (.lst (dr.sg.map V.str)):=aa;generalize upd k g (.lst (dr.sg.map V.str))=J1 at T1 g1 ⊢;refine⟨g,_,rfl,.inl ⟨aA.of g1,fun s hs=>?_⟩⟩;have U:ae k (upd J1 s (.tup (dr.sg.map V.str))):=T1.trans (ae.new hs);have g2:upd J1 s (.tup (dr.sg.map V.str)) s=some (.tup (dr.sg.map V.str)):=aa;generalize upd J1 s (.tup (dr.sg.map V.str))=J2 at U g2 ⊢;refine⟨_,rfl,_,rfl,.inl ⟨t,_,rfl,.inl (aA.of (U _ _ m)),_,_,rfl,rfl,t,_,_,.str dr.b,rfl,rfl,aA.of (U _ _ m),?_,(by show 3<=ao;decide),fun u hu=>?_⟩⟩
   ·rw[len,show(((dr.sg.length+2:Nat):Int)-1)=((dr.sg.length+1:Nat):Int) by omega];refine bW ?_;rw[bD];simp[a_]
   have G:=U.trans (ae.new (o:=.tup [.str dr.a,.ref s,.str dr.b]) hu);have ak:fm (upd J2 u (.tup [.str dr.a,.ref s,.str dr.b])) u dr:=⟨s,aa,kp g2 hu⟩;generalize upd J2 u (.tup [.str dr.a,.ref s,.str dr.b])=J3 at G ak ⊢;have aH:=S.trans G;refine⟨G _ _ d',?_,uf hi ⟨T++[u],by rw[aK];rfl,?_,?_,aa⟩⟩
   ·rw[aq,Paired.length D,aL];exact bb (by omega)
   ·rw[take_snoc aC];exact Paired.app ((D.kt (ae.kt G)).kt (jz (G _ _ d'))) (.cons (ak.kt (jz (G _ _ d'))) .nil)
   ·intro b o e;rw[am (ah e hd)];exact aH _ _ e
  rintro L H8 ⟨T,rfl,D8,S8,d8⟩;rw[aq,as,cO]at D8;have f8:=S8 _ _ (I _ _ N);have one:∀(h:Str) (w:Zb),dq ((h::w).map V.str) (some 1) none=w.map V.str:=fun h w=>by
   rw[show(1:Int)=((1:Nat):Int)from rfl,qD];rfl
  refine⟨_,rfl,f,_,0,.ref u0,rfl,rfl,aA.of f8,bW (j:=0) rfl,_,rfl,u0,_,rfl,aA.of (S8 _ _ (I _ _ h0)),fun m1 k1=>?_⟩;rw[one];have T1:=ae.new (o:=.lst (J0.map V.str)) k1;refine⟨_,rfl,f,_,1,.ref u1,rfl,rfl,aA.of (T1 _ _ f8),bW (j:=1) rfl,_,rfl,u1,_,rfl,aA.of (T1 _ _ (S8 _ _ (I _ _ h1))),fun m2 k2=>?_⟩;rw[one];have U:=T1.trans (ae.new (o:=.lst (J4.map V.str)) k2);refine⟨_,rfl,f,_,2,.ref u2,rfl,rfl,aA.of (U _ _ f8),bW (j:=2) rfl,_,rfl,u2,_,rfl,aA.of (U _ _ (S8 _ _ (I _ _ h2))),fun m3 k3=>?_⟩;rw[one];have G:=U.trans (ae.new (o:=.lst (J5.map V.str)) k3);have L9:Lists (upd (upd (upd H8 m1 (.lst (J0.map V.str))) m2 (.lst (J4.map V.str))) m3 (.lst (J5.map V.str))) m1 m2 m3 d T J0 J4 J5 ds:=⟨kp (kp aa k2) k3,kp aa k3,aa,G _ _ d8,D8.kt (ae.kt G)⟩;generalize upd (upd (upd H8 m1 (.lst (J0.map V.str))) m2 (.lst (J4.map V.str))) m3 (.lst (J5.map V.str))=H9 at G L9 ⊢;have al:ae H H9:=((ai.trans I).trans S8).trans G;exact⟨_,rfl,m1,m2,m3,d,T,J0,J4,J5,ds,o,rfl,L9,F,sg,v,fun ho r k C S'=>ko ho r m1 m2 m3 d T k C (L9.same S') (al.trans S'),fun p n ho t k ht S'=>ke p n ho t k ht (al.trans S')⟩
theorem Dj{K:Za}{t n p s u:Addr}{x:Ze}{g h i:Zb}{j:List av}{H:Hp}{Q:VK}{E:XK}(T:qH H t n p s u x g h i j)(m:bO g h i j)(k:∀l,ae H l->Q (.str (eW (bG g h i j))) l):kb K [.ref t] H Q E:=by
 refine⟨[eS K (HX g h i j)],[],fun r _=>r=eS K (bx (eW (bG g h i j))),⟨H,H,fun _=>0,fun _=>False⟩,rfl,rfl,(fun _ _ e=>nomatch e),⟨ae.refl _,(fun _ e=>e.elim),(fun _ _ e=>nomatch e),(fun _ _ _ _ e=>nomatch e),j6⟩,.cons (HF T) .nil,⟨rfl,g,h,i,j,m,rfl,rfl⟩,?_⟩;intro r v B y e w f o;subst e;have o:DR K y.G (bx (eW (bG g h i j))) v:=o;unfold bx DR at o;rw[o];exact k _ fun a o q=>w.hh a o q (fun z=>z) (fun z=>by simp[K_]at z)
structure RtC(K:Za)(Cx Cn:Addr):Prop where
 x:XC K Cx
 n:kE K Cn
 na:db K Cn "number"
 self:wB K (.ref Cn) (.ref Cn)=some true
 no:wB K (.ref Cx) (.ref Cn)=some false
theorem I_{K:Za}{g:Str->Option Value}{x y:Str}{a Cx Cn:Addr}(c:XC K Cx)(hx:XX K g x Cx a)(f:XX K g y Cn a)(h:db K Cn "number")(i:[a,Cx,Cn].Nodup):RtC K Cx Cn:=by
 have q:Cn≠a/\Cn≠Cx:=by refine⟨?_,?_⟩<;>(intro e;simp[e]at i)
 exact⟨c,f.cls,h,by rw[f.exm f q.1,zzr1 rfl],by rw[hx.exm f q.1,zzr0 q.2]⟩
theorem xI{K:Za}{C Cx Cn:Addr}(F:RtC K Cx Cn){Y:List V}{H:Hp}{Q:VK}{E:XK}(h:dW Y H Q E):pT K C (tU C) (oq C) (sy C) (sB C) (ou C Cx Cn) Cx Cn (bJ Q) (start sk Y) H:=by
 obtain⟨x,rfl,tb,kn,km⟩:=h;refine⟨_,rfl,x,rfl,tb,fun n hn e k xe=>?_,fun f g i l re er sg fw zd tv=>?_⟩
 ·obtain⟨m,d,w,B⟩:=xe;refine⟨Cn,e,true,rfl,rfl,F.self,bI ?_⟩;refine⟨_,rfl,e,Cn,d,_,_,rfl,w,B,F.n,F.na,rfl,(by show 2<=ao;decide),fun t I=>?_⟩;refine⟨_,rfl,_,rfl,?_⟩;rw[zzr1 rfl];exact bI ⟨_,rfl,kn n hn t _ aa (m.trans (ae.new I))⟩
 obtain⟨o,v,ko,ke⟩:=km f g i l re er sg fw zd tv;refine⟨o,v,fun J y k mb m=>?_,fun p n J a k xa m=>?_⟩;rotate_left
 ·obtain⟨d,w,B⟩:=xa.at_;refine⟨Cx,a,false,rfl,rfl,F.no,bC ⟨Cx,a,true,rfl,rfl,F.x.self,bI ?_⟩⟩;refine⟨_,rfl,a,Cx,d,_,_,rfl,w,B,F.x.cls,F.x.p,rfl,?_⟩;refine⟨_,rfl,a,Cx,d,_,_,rfl,w,B,F.x.cls,F.x.n,rfl,(by show 2<=ao;decide),fun t I=>?_⟩;refine⟨_,rfl,_,rfl,?_⟩;rw[zzr1 rfl];exact bI ⟨_,rfl,ke p n J t _ aa (m.trans (ae.new I))⟩
 subst J;have M:ia C k y f g i l:=mb.ok (v.ok (by omega));refine⟨_,rfl,_,rfl,?_⟩;rw[zzr0 (by intro z;cases z)];refine bC ?_;obtain⟨q,fs,o1,o2,o3,o4,lv,qu,ab,sl,L,ai,aj,ak,j,_,_,_,a4,b1,b2,b3,b4,b5,b6,b7,b8,LL,_⟩:=id M.at_;obtain⟨al,an,s,e1,e2,e3,_⟩:=id M.more;rw[j]at s;cases s;refine⟨_,rfl,y,q,fs,rfl,j,e1,y,f,g,i,l,rfl,M,fun N k1=>?_⟩;have O:ae k (upd k N (.lst (f.map V.str))):=ae.new k1;refine⟨_,rfl,y,q,fs,rfl,O _ _ j,e2,y,f,g,i,l,rfl,M.same O,fun r2 k2=>?_⟩;have T:=O.trans (ae.new (o:=.lst (g.map V.str)) k2);refine⟨_,rfl,y,q,fs,rfl,T _ _ j,a4,y,f,g,i,l,rfl,M.same T,fun r3 U=>?_⟩;have D:=T.trans (ae.new (o:=.lst (i.map V.str)) U);refine⟨_,rfl,y,q,fs,rfl,D _ _ j,e3,y,q,o4,fs,L,rfl,D _ _ j,b4,D _ _ LL.a4,fun r4 G=>?_⟩;have T4:=D.trans (ae.new (o:=.lst (L.map V.ref)) G);refine⟨(by show 4<=ao;decide),fun r u=>?_⟩;have T5:=T4.trans (ae.new (o:=.lst [.ref N,.ref r2,.ref r3,.ref r4]) u);refine ko rfl r N r2 r3 r4 L _ aa ⟨?_,?_,?_,?_,LL.ds.kt (ae.kt T5)⟩ (m.trans T5)
 ·exact kp (kp (kp (kp aa k2) U) G) u
 ·exact kp (kp (kp aa U) G) u
 ·exact kp (kp aa G) u
 ·exact kp aa u
theorem z0{d e:av}(h:a_ d=a_ e):d=e:=by
 unfold a_ at h;rw[j7,j7]at h;injection h with f i;obtain⟨g,a⟩:=List.append_inj' i rfl;have a:d.b=e.b:=by simpa using a
 cases d;cases e;simp only at f g a;rw[f,g,a]
theorem t6{a s r j k l:Zb}{d e:List av}(h:bG a s r d=bG j k l e):a=j/\s=k/\r=l/\d=e:=by
 unfold bG bo at h;rw[j7,j7,j7,List.nil_append,j7,j7,j7,List.nil_append]at h;injection h with f h;injection h with g h;injection h with i h;injection f with _ f;injection g with _ g;injection i with _ i;refine⟨f,g,i,?_⟩;have:∀{d e:List av},d.map a_=e.map a_->d=e:=by
  intro d
  induction d with
  |nil=>intro e h;cases e with
   |nil=>rfl
   |cons _ _=>cases h
  |cons x d m=>intro e h;cases e with
   |nil=>cases h
   |cons y e=>rw[aS,aS]at h;injection h with f g;rw[z0 f,m g]
 exact this h
def rQ(K:Za)(sp_law_take:Sp)(sp_law_text:Sp):TS :=
 au (aN (eJ (ay (tC (.str "asks")) (ay (tC (.str "says")) (ay (tC (.str "rooms")) (ay (tC (.str "ask")) (ay (tC (.str "say")) (ay (tC (.str "still")) (fu (tC (.str "hush")) (tC (.str "")) (Ic (aW sp_law_text (aF V0)) " " "x"))))))))) U2)
 (au (aN (aI DD (aI DD (aI DD V2 (aI (t8 K) V1 (tC (.int 0)))) (aI (t8 K) V1 (tC (.int 1)))) (aI (t8 K) V1 (tC (.int 2)))) U2)
 (bf (aI (cy K) V2 (aW sp_law_take (ba V0 (du (cD K) (aF V2)))))))
def sj:List Str:=["pen","told","words"]
def pV(K:Za)(sp_law_some_word:Sp)(sp_law_take:Sp):TS :=
 au (aN (du (fU K) (aF V2)) U2)
 (au (aN (aW sp_law_take (ba V0 (tC (.int 3)))) U3)
 (au (aN (aW sp_law_take (ba V0 (aI eM (du (cD K) (aF V2)) (tC (.int 1))))) U4)
 (au (aN (aW sp_law_some_word (ba V0 V1)) U5)
 (au (cu (Du (bc (aI mw V3 (tC (.int 0)))) (bc (aI mw V4 (du (cD K) (aF V2))))) (dB (pf K "list" sD V2 (ba V4 V5))) (cu (bc (aI mw V3 (tC (.int 1)))) (aN V5 (ux V2 V4 lq)) (dB (pf K "list" A8 V2 (aF V4)))))
 (bf V2)))))
def qM:List Str:=["pen","told","words","way","at","word"]
def pW(K:Za)(sp_law_bent_words:Sp)(sp_law_take:Sp)(sp_law_some_word:Sp):TS :=
 au (aN (du (fU K) (aF V2)) U2)
 (au (aN (aW sp_law_take (ba V0 (tC (.int 6)))) U3)
 (au (cu (bc (aI (se K) V2 (eJ (bS)))) (bf (eJ (aF (eJ (aF (aW sp_law_some_word (ba V0 V1))))))) (br))
 (au (aN (aW sp_law_take (ba V0 (du (cD K) (aF V2)))) U4)
 (au (aN (aW sp_law_take (ba V0 (du (cD K) (aF V2)))) U5)
 (au (cu (bc (aI mw V3 (tC (.int 0)))) (dB (pf K "list" A8 V2 (aF V4))) (cu (bc (aI mw V3 (tC (.int 1)))) (dB (pf K "list" sD V2 (ba V4 (aI (cy K) V2 V5)))) (cu (bc (aI mw V3 (tC (.int 2)))) (au (aN (aI (cy K) V2 V4) U6)
 (au (aN (aI (cy K) V2 V5) (ux V2 V4 lq))
 (aN V6 (ux V2 V5 lq)))) (aN (aW sp_law_bent_words (fu V0 V1 (aI (cy K) V2 V4))) (ux V2 V4 lq)))))
 (bf V2))))))
def qN:List Str:=["pen","told","lines","way","one","two","kept"]
def GZ(K:Za)(sp_law_same:Sp)(sp_law_read_due:Sp)(sp_law_read_told:Sp)(sp_law_take:Sp)(sp_law_bent_lines:Sp)(sp_law_text_of:Sp)(sp_law_model:Sp)(sp_law_open:Sp):TS :=
 au (aN (aW sp_law_open (aF V0)) U1)
 (au (aN (aW sp_law_model (ay V1 (ay (tC (.int 6)) (aF (aW sp_law_take (ba V1 (tC (.int 2)))))))) U2)
 (au (aN (dR 1 [] (dS K (nN (jb K) (pf K "str" ng (aW sp_law_text_of (aF V2)) (aF (tC (.str "\n")))) (bM) (cE (H_ (rU fun i=>.int (-i)) (tC (.int 1)))))) U0 (jx) (pf K "str" ng V0 (aF (tC (.str " "))))) U3)
 (au (gk (rG (aF (aW sp_law_take (ba V1 (tC (.int 4)))))) U4 (aN (aW sp_law_bent_lines (fu V1 V2 V3)) U3))
 (au (aN (pf K "str" (vT K) (tC (.str "")) (ay (dR 1 [] (dS K V3) U0 (jx) (aI fL (pf K "str" (vT K) (tC (.str " ")) (aF V0)) (tC (.str "\n")))) bS)) U5)
 (au (aN (aW sp_law_take (ba V1 (tC (.int 6)))) U6)
 (au (cu (bc (aI mw V6 (tC (.int 0)))) (aN (nN xK V5 (bM) (cE (aI Fm (du (cD K) (aF V5)) (tC (.int 1))))) U5) (br))
 (au (cu (bc (aI mw V6 (tC (.int 1)))) (aN (aI fL V5 (aI (cy K) (eJ (ay (tC (.str "\n")) (fu (tC (.str " ")) (tC (.str "x")) (tC (.str " \n"))))) (aW sp_law_take (ba V1 (tC (.int 4)))))) U5) (br))
 (bf (aW sp_law_same (ba (aW sp_law_read_told (aF V5)) (aW sp_law_read_due (aF V5))))))))))))
def C8:List Str:=["script","pen","told","lines","turn","given","way"]
def Ft:List Str:=["script"]
def Wd(w:Str):Prop:=w.length<=30/\32∉w.cps.toList
def Hs(w:Str):Nat:=w.cps.toList.count 10
def rq(r:Zb):Nat:=(r.map Hs).sum
def Er(rows:List (List Str)):Nat:=(rows.map rq).sum
structure jA(n m k:Nat)(rows:List (List Str)):Prop where
 len:rows.length<=n
 row:∀r∈rows,r.length<=m
 wd:∀r∈rows,∀w∈r,Wd w
 nl:Er rows<=k
theorem Wd.nl{w:Str}(h:Wd w):Hs w<=30:=aP List.count_le_length (by rw[<-aZ];exact h.1)
theorem Cp{a:Nat}:∀{l:List Nat},a∈l->a<=l.sum
 |b::l,h=>by
  rw[c8];rcases bw.1 h with rfl|h
  ·omega
  ·have:=Cp h;omega
theorem oG{a b:Nat}:∀{l:List Nat}{i:Nat},l[i]?=some a->(l.set i b).sum+a=l.sum+b
 |x::l,0,h=>by cases h;show(b::l).sum+a=(a::l).sum+b;rw[c8,c8];omega
 |x::l,i+1,h=>by
  have:=oG (b:=b) (l:=l) (i:=i) h;show(x::l.set i b).sum+a=(x::l).sum+b;rw[c8,c8];omega
theorem qA:∀(l:List Nat) (i:Nat),(l.eraseIdx i).sum<=l.sum
 |[],_=>aG _
 |x::l,0=>by show l.sum<=(x::l).sum;rw[c8];omega
 |x::l,i+1=>by
  have:=qA l i;show(x::l.eraseIdx i).sum<=(x::l).sum;rw[c8,c8];omega
theorem CO(l:List Nat)(i y:Nat):(l.take i++y::l.drop i).sum=l.sum+y:=by
 have:l.sum=(l.take i++l.drop i).sum:=by rw[ww]
 rw[this,List.sum_append,List.sum_append,c8];omega
theorem FR{w:Nat->Nat}{r:List Nat}:∀{a:List Nat}{acc:Nat},mx w acc (a++10::r)<=max (acc+(a.map w).sum) (mx w 0 r)
 |[],acc=>by show mx w acc (10::r)<=_;rw[uk rfl];exact aG _
 |c::e,acc=>by
  show mx w acc (c::(e++10::r))<=_;rw[aS,c8];by_cases h:c=10
  ·rw[uk h];have:=FR (w:=w) (r:=r) (a:=e) (acc:=0);omega
  ·rw[um h];have:=FR (w:=w) (r:=r) (a:=e) (acc:=acc+w c);omega
theorem ul{w:Nat->Nat}{L:Nat}:∀{f:List (List Nat)},(∀a∈f,(a.map w).sum<=L)->mx w 0 (f.map fun a=>a++[10]).flatten<=L
 |[],_=>cf _
 |a::f,h=>by
  have e:((a::f).map fun a=>a++[10]).flatten=a++10::(f.map fun a=>a++[10]).flatten:=by simp
  rw[e];have g:=FR (w:=w) (r:=(f.map fun a=>a++[10]).flatten) (a:=a) (acc:=0);have:=h a bR;have:=ul (w:=w) (L:=L) fun x hx=>h x (bQ _ hx);omega
theorem Bo(c:Nat):∀e:List (List Nat),(jn c e).length<=(e.map List.length).sum+e.length
 |[]=>cf _
 |[a]=>by show a.length<=([a].map List.length).sum+1;simp
 |a::b::l=>by
  have:=Bo c (b::l);show(a++c::jn c (b::l)).length<=_;rw[aV,bP,aS,c8,bP];omega
theorem CL(c d:Nat):∀e:List (List Nat),(jn c e).length=(jn d e).length
 |[]=>rfl
 |[_]=>rfl
 |a::b::l=>by
  have:=CL c d (b::l);show(a++c::jn c (b::l)).length=(a++d::jn d (b::l)).length;rw[aV,aV,bP,bP,this]
theorem F0{c d:Nat}(h:c≠d):∀e:List (List Nat),(jn d e).count c=(e.map (List.count c)).sum
 |[]=>rfl
 |[a]=>by show a.count c=([a].map (List.count c)).sum;simp
 |a::b::l=>by
  have:=F0 h (b::l);show(a++d::jn d (b::l)).count c=_;rw[pj,List.count_cons_of_ne h.symm,this];simp
theorem GR{z:Str}(h:z.length<=30):Wd (g9 z " " "x"):=by
 rw[vL,show("x":Str)=⟨#[120]⟩ by decide +kernel,StrLaws.replace_one];refine⟨?_,?_⟩
 ·rw[aZ,lH,CL 120 32,<-qF,<-aZ];exact h
 ·rw[lH];refine ya (by decide) fun a e=>?_;obtain⟨p,f,rfl⟩:=aR.mp e;exact StrLaws.split_free z 32 p f
def nX(rows:List (List Str)):List Nat:=(rows.map fun r=>jn 32 (r.map (fun w:Str=>w.cps.toList))++[10]).flatten
theorem Ch{rows:List (List Str)}(R:jA 606 10 210 rows):TB 310 9 816 188466 (nX rows):=by
 have e:nX rows=((rows.map fun r=>jn 32 (r.map (fun w:Str=>w.cps.toList))).map fun a=>a++[10]).flatten:=by unfold nX;rw[eZ];rfl
 have k:∀r∈rows,(jn 32 (r.map (fun w:Str=>w.cps.toList))).length<=310:=fun r g=>by
  have m:=Bo 32 (r.map (fun w:Str=>w.cps.toList));have n:∀l:List Str,(∀w∈l,Wd w)->((l.map (fun w:Str=>w.cps.toList)).map List.length).sum<=30 * l.length:=by
   intro l
   induction l with
   |nil=>intro _;exact aG _
   |cons w l i =>
    intro h;have p:=i fun x hx=>h x (bQ _ hx);have o:=(h w bR).1;rw[aZ]at o;rw[aS,aS,c8,bP];omega
  have p:=n r (R.wd r g);have o:=R.row r g;rw[aq]at m;omega
 refine⟨?_,?_,?_,?_⟩
 ·rw[e];refine ul fun a j=>?_;obtain⟨r,g,rfl⟩:=aR.mp j;rw[Co];exact k r g
 ·rw[e];refine ul fun a j=>?_;obtain⟨r,g,rfl⟩:=aR.mp j;rw[ER];cases r with
  |nil=>exact cf _
  |cons y s =>
   have:=o7 (c:=32) (ls:=(y::s).map (fun w:Str=>w.cps.toList)) (by simp) fun a j=>by
    obtain⟨w,t,rfl⟩:=aR.mp j;exact(R.wd _ g w t).2
   rw[aq]at this;have:=R.row _ g;omega
 ·have h:∀f:List (List Str),(nX f).count 10=Er f+f.length:=by
   intro f
   induction f with
   |nil=>rfl
   |cons r f i =>
    show((jn 32 (r.map (fun w:Str=>w.cps.toList))++[10])++nX f).count 10=((r::f).map rq).sum+_;rw[pj,pj,i,F0 (by decide),aS,c8,bP,eZ];show rq r+1+(Er f+f.length)=rq r+Er f+(f.length+1);omega
  rw[h];have:=R.len;have:=R.nl;omega
 ·have h:∀f:List (List Str),(∀r∈f,(jn 32 (r.map (fun w:Str=>w.cps.toList))).length<=310)->(nX f).length<=311 * f.length:=by
   intro f
   induction f with
   |nil=>intro _;exact aG _
   |cons r f i =>
    intro q;have m:=i fun x hx=>q x (bQ _ hx);have n:=q r bR;show((jn 32 (r.map (fun w:Str=>w.cps.toList))++[10])++nX f).length<=_;rw[aV,aV,show(r::f).length=f.length+1 from rfl];show _+1+_<=_;omega
  have:=h rows k;have:=R.len;omega
theorem IT{x y:List Nat}{n:Nat}{L B N T:Nat}(h:TB L B N T x)(e:y=x.take n):TB L B N T y:=by
 subst e;have p:x=x.take n++x.drop n:=(ww n x).symm;refine⟨?_,?_,?_,?_⟩
 ·have:=h.len;rw[p]at this;exact aP (sF _ _ _) this
 ·have:=h.bl;rw[p]at this;exact aP (sF _ _ _) this
 ·have:=h.nl;rw[p,pj]at this;omega
 ·have:=h.all;rw[aL];omega
theorem GX{x b:List Nat}{L B N T:Nat}(h:TB L B N T x)(z:b.length<=2):TB (L+2) (B+2) (N+2) (T+2) (x++b):=by
 have m:∀(w:Nat->Nat),(∀c,w c<=1)->∀l:List Nat,mx w 0 l<=l.length:=by
  intro w a l
  induction l with
  |nil=>exact cf _
  |cons c l g=>have:=Hv a c l;rw[bP];omega
 refine⟨?_,?_,?_,?_⟩
 ·have e:=xV (w:=DH) b x 0;have f:=m DH (fun _=>aG _) b;have:=h.len;omega
 ·have e:=xV (w:=Br) b x 0;have f:=m Br (fun c=>by unfold Br;split<;>omega) b;have:=h.bl;omega
 ·rw[pj];have:b.count 10<=b.length:=List.count_le_length;have:=h.nl;omega
 ·rw[aV];have:=h.all;omega
theorem Paired.out{α β:Type}{R:α->β->Prop}:∀{a:List α}{bs:List β}(k:Nat),Paired R a bs->Paired R (a.eraseIdx k) (bs.eraseIdx k)
 |_,_,_,.nil=>.nil
 |_,_,0,.cons r h=>h
 |_,_,k+1,.cons r h=>.cons r (Paired.out k h)
theorem jR{α β:Type}(f:α->β):∀(l:List α) (n:Nat),(l.map f).eraseIdx n=(l.eraseIdx n).map f
 |[],_=>rfl
 |_::_,0=>rfl
 |a::l,n+1=>by show f a::(l.map f).eraseIdx n=f a::(l.eraseIdx n).map f;rw[jR]
theorem Paired.put{α β:Type}{R:α->β->Prop}{a:α}{b:β}(h:R a b):∀{e:List α}{bs:List β}(k:Nat),Paired R e bs->Paired R (e.set k a) (bs.set k b)
 |_,_,_,.nil=>.nil
 |_,_,0,.cons _ q=>.cons h q
 |_,_,k+1,.cons r q=>.cons r (Paired.put h k q)
theorem Paired.insR{α β:Type}{R:α->β->Prop}{a:α}{b:β}(h:R a b):∀{e:List α}{bs:List β}(k:Nat),Paired R e bs->Paired R (e.take k++a::e.drop k) (bs.take k++b::bs.drop k)
 |_,_,0,q=>.cons h q
 |_,_,k+1,.nil=>.cons h .nil
 |_,_,k+1,.cons r q=>.cons r (Paired.insR h k q)
theorem rN.wd{w:Str}(h:jB w):Wd w:=⟨aP h.hi (by decide),h.pl.sp⟩
inductive gS(vs:List V)(H:Hp)(Q:VK)(E:XK):Prop
 |mk (p c t l1 l2 l3 l4:Addr) (ts:Ze) (J0 J4 J5:Zb) (ds:List av):(vs=[.ref p,.ref t])->(fA H p c)->(qH H t l1 l2 l3 l4 ts J0 J4 J5 ds)->(bO J0 J4 J5 ds)->(∀w H',Wd w->fA H' p c->cV p H H'->Q (.str w) H')->gS vs H Q E
theorem zB{K:Za}{vs:List V}{H:Hp}{Q:VK}{E:XK}(h:gS vs H Q E):rQ K cY sw (bJ Q) (start sj vs) H:=by
 obtain⟨p,c,t,l1,l2,l3,l4,ts,a,e,q,ds,rfl,hp,T,m,k⟩:=h;have y1:=m.asks4;have y2:=m.says4;have y3:=m.rooms26;refine⟨_,rfl,p,c,rfl,hp,fun w g B C i=>⟨w,rfl,by show w.length+(w.length+1) * 1<=16777216;omega,(by show 9<=ao;decide),fun f D=>?_⟩⟩;have T1:=T.ex hp i;have G:ae g (upd g f (.lst ([("asks":Str),"says","rooms","ask","say","still","hush","",g9 w " " "x"].map V.str))):=ae.new D;have I:upd g f (.lst ([("asks":Str),"says","rooms","ask","say","still","hush","",g9 w " " "x"].map V.str)) f=some (.lst ([("asks":Str),"says","rooms","ask","say","still","hush","",g9 w " " "x"].map V.str)):=aa;show au _ _ _ _ (upd g f (.lst ([("asks":Str),"says","rooms","ask","say","still","hush","",g9 w " " "x"].map V.str)));generalize upd g f (.lst ([("asks":Str),"says","rooms","ask","say","still","hush","",g9 w " " "x"].map V.str))=r at G I ⊢;have j:∀x∈[("asks":Str),"says","rooms","ask","say","still","hush","",g9 w " " "x"],Wd x:=fun x hx=>by
  have J:∀y∈[("asks":Str),"says","rooms","ask","say","still","hush",""],Wd y:=by unfold Wd;decide +kernel
  have:x∈[("asks":Str),"says","rooms","ask","say","still","hush",""]++[g9 w " " "x"]:=hx;rcases bu.1 this with z|z
  ·exact J x z
  ·rw[pD.1 z];exact GR B
 have l9:([("asks":Str),"says","rooms","ask","say","still","hush","",g9 w " " "x"]).length=9:=rfl;generalize[("asks":Str),"says","rooms","ask","say","still","hush","",g9 w " " "x"]=W at I j l9;have L:=T1.same G;refine⟨_,rfl,_,rfl,t,_,0,_,rfl,rfl,cq.of L.t,rfl,f,l1,_,_,rfl,rfl,I,L.a1,by rw[aq,aq];exact c6 (aU (by omega)),fun l M=>?_⟩;have N:ae r (upd r l (.lst (W.map V.str++a.map V.str))):=ae.new M;have e3:upd r l (.lst (W.map V.str++a.map V.str)) l=some (.lst ((W++a).map V.str)):=by rw[aa,aK]
 generalize upd r l (.lst (W.map V.str++a.map V.str))=s at N e3 ⊢;have O:=L.same N;refine⟨_,rfl,t,_,1,_,rfl,rfl,cq.of O.t,rfl,l,l2,_,_,rfl,rfl,e3,O.a2,by rw[aq,aq,aV];exact c6 (aU (by omega)),fun n U=>?_⟩;have Y:ae s (upd s n (.lst ((W++a).map V.str++e.map V.str))):=ae.new U;have e4:upd s n (.lst ((W++a).map V.str++e.map V.str)) n=some (.lst ((W++a++e).map V.str)):=by rw[aa,<-aK]
 generalize upd s n (.lst ((W++a).map V.str++e.map V.str))=u at Y e4 ⊢;have T4:=O.same Y;refine⟨_,rfl,t,_,2,_,rfl,rfl,cq.of T4.t,rfl,n,l3,_,_,rfl,rfl,e4,T4.a3,by rw[aq,aq,aV,aV];exact c6 (aU (by omega)),fun v ab=>?_⟩;have S5:ae u (upd u v (.lst ((W++a++e).map V.str++q.map V.str))):=ae.new ab;have e5:upd u v (.lst ((W++a++e).map V.str++q.map V.str)) v=some (.lst ((W++a++e++q).map V.str)):=by rw[aa,<-aK]
 generalize upd u v (.lst ((W++a++e).map V.str++q.map V.str))=H5 at S5 e5 ⊢;have o:=G.trans (N.trans (Y.trans S5));refine oJ (fun _ _ _ _ h=>h) rfl rfl (C.ex o) e5 (fun z=>by have:=congrArg List.length z;simp only[aV,pH]at this;omega) (by simp only[aV];omega) fun x hx H6 ai aj=>k x H6 ?_ ai ((i.trans (ae.exB o)).trans aj);rcases bu.1 hx with hx|hx
 ·rcases bu.1 hx with hx|hx
  ·rcases bu.1 hx with hx|hx
   ·exact j x hx
   ·exact rN.wd (m.okA.2 x hx)
  ·exact rN.wd (m.okS.2 x hx)
 ·exact rN.wd (m.okR.2 x hx)
inductive oC(vs:List V)(H:Hp)(Q:VK)(E:XK):Prop
 |mk (p c t l1 l2 l3 l4 l:Addr) (ts:Ze) (J0 J4 J5:Zb) (ds:List av) (r:Zb):(vs=[.ref p,.ref t,.ref l])->(fA H p c)->(qH H t l1 l2 l3 l4 ts J0 J4 J5 ds)->(bO J0 J4 J5 ds)->(H l=some (.lst (r.map V.str)))->(r.length<=900)->(∀w∈r,Wd w)->(∀(l':Addr) (r':Zb) (H':Hp),H' l'=some (.lst (r'.map V.str))->r'.length<=r.length+1->(∀w∈r',Wd w)->rq r'<=rq r+30->fA H' p c->cV p H H'->Q (.ref l') H')->oC vs H Q E
theorem Fj{K:Za}{vs:List V}{H:Hp}{Q:VK}{E:XK}(h:oC vs H Q E):pV K gS cY (bJ Q) (start qM vs) H:=by
 obtain⟨p,c,t,l1,l2,l3,l4,l,ts,J0,J4,J5,ds,r,rfl,N,T,m,hl,z9,J,k⟩:=h;refine⟨_,rfl,.inl ⟨l,_,rfl,.inl (aA.of hl),fun q L=>?_⟩⟩;have M:ae H (upd H q (.lst (r.map V.str))):=ae.new L;have O:upd H q (.lst (r.map V.str)) q=some (.lst (r.map V.str)):=aa;generalize upd H q (.lst (r.map V.str))=H1 at M O ⊢;have g:=N.ex M;have T1:=T.same M;refine⟨_,rfl,cp g (by decide) (by decide) fun C H2 _ _ j s=>?_⟩;have U:=s _ _ O (g.ne_strs O);have T2:=T1.ex g s;refine⟨_,rfl,_,rfl,.inl ⟨q,_,rfl,.inl (aA.of U),_,_,rfl,rfl,?_⟩⟩;rw[aq];refine cp (m:=(r.length:Int)+1) j (by omega) (by omega) fun at_ H3 a0 a1 D u=>?_;obtain⟨n,rfl⟩:=fO a0;have q3:=u _ _ U (j.ne_strs U);have T3:=T2.ex j u;refine⟨_,rfl,_,rfl,p,c,t,l1,l2,l3,l4,ts,J0,J4,J5,ds,rfl,D,T3,m,fun w Y wd ab G=>?_⟩;have y:=G _ _ q3 (D.ne_strs q3);have ai:cV p H Y:=(((ae.exB M).trans s).trans u).trans G;have qp:q≠p:=(N.nep L).symm;have qc:q≠c:=(N.nec L).symm;have v:∀B:List Str,B.length<=r.length+1->(∀w∈B,Wd w)->rq B<=rq r+30->∀o,o=HO.lst (B.map V.str)->bf V2 (bJ Q) [some (.ref p),some (.ref t),some (.ref q),some (.int C),some (.int (n:Int)),some (.str w)] (upd Y q o):=fun B h1 h2 h3 o eo=>by
  subst eo;exact⟨_,rfl,k q B _ aa h1 h2 h3 (ab.upd qp.symm qc.symm) fun b o e nb=>by rw[am (ah e L)];exact ai _ _ e nb⟩
 have f:n<=r.length->au (dB (pf K "list" sD V2 (ba V4 V5))) (bf V2) (bJ Q) [some (.ref p),some (.ref t),some (.ref q),some (.int C),some (.int (n:Int)),some (.str w)] Y:=fun hn=>by
  refine⟨_,rfl,.inl ⟨rfl,_,aA.of y⟩,_,rfl,_,rfl,q,_,n,.str w,rfl,rfl,y,by rw[aq];exact hn,by rw[aq];exact aU (by omega),?_⟩;refine v (r.take n++w::r.drop n) ?_ (fun x hx=>?_) ?_ _ (by rw[aK,aS,jY,kS])
  ·rw[aV,bP,aL,fc];omega
  ·rcases bu.1 hx with z|z
   ·exact J x (fM z)
   ·rcases bw.1 z with z|z
    ·rw[z];exact wd
    ·exact J x (sS z)
  ·unfold rq;rw[aK,aS,jY,kS,CO];have:=wd.nl;omega
 refine⟨_,rfl,rfl,_,rfl,?_⟩;refine dz (fun _=>bI (f (by omega))) (fun _=>?_);refine⟨_,rfl,_,rfl,.inl ⟨q,_,rfl,.inl (aA.of y),rfl,_,rfl,?_⟩⟩;rw[aq];refine dz (fun _=>f (by omega)) (fun ne=>?_);have nl:n<r.length:=by
  have:¬n=r.length:=fun z=>by rw[z]at ne;simp at ne
  omega
 have w':∃x,r[n]?=some x:=⟨_,ef nl⟩;obtain⟨x0,I⟩:=w';refine⟨_,rfl,rfl,_,rfl,?_⟩;refine dz (fun _=>?_) (fun _=>?_)
 ·refine⟨_,rfl,_,rfl,_,rfl,q,_,n,n,rfl,rfl,y,by rw[aq];exact me nl,?_⟩;refine v (r.set n w) (by rw[jv];omega) (fun x hx=>?_) ?_ _ (by rw[jX])
  ·rcases wv hx with z|z
   ·exact J x z
   ·rw[z];exact wd
  ·unfold rq;rw[jX];have:=oG (a:=Hs x0) (b:=Hs w) (l:=r.map Hs) (i:=n) (by rw[bD,I];rfl);have:=wd.nl;omega
 ·refine⟨_,rfl,.inl ⟨rfl,_,aA.of y⟩,_,rfl,q,_,n,n,.str x0,rfl,rfl,y,by omega,by omega,(sI (me (by rw[aq];exact nl))).1,by rw[bD,I];rfl,?_⟩;refine v (r.eraseIdx n) ?_ (fun x hx=>J x (List.mem_of_mem_eraseIdx hx)) ?_ _ (by rw[jR])
  ·have:=List.length_eraseIdx_le r n;omega
  ·unfold rq;rw[<-jR];have:=qA (r.map Hs) n;omega
abbrev jp(H:Hp)(a:Addr)(r:Zb):Prop:=H a=some (.lst (r.map V.str))
theorem Ht{rows:List (List Str)}{r:Zb}(h:r∈rows):rq r<=Er rows:=Cp (pk h)
theorem Ja{H:Hp}{q a:Addr}{xs:Ze}{r:Zb}(e:H q=some (.lst (xs.map V.ref)))(ne:xs≠[])(h:jp H a r):a≠q:=fun z=>by
 subst z;have h:H a=some (.lst (r.map V.str)):=h;rw[e]at h;injection h with h;injection h with h;cases xs with
 |nil=>exact ne rfl
 |cons x xs =>
  cases r with
  |nil=>cases h
  |cons w r=>injection h with h;cases h
theorem vR{K:Za}{H:Hp}:∀{a:Ze}{rows:List (List Str)},Paired (jp H) a rows->DIns K H (rows.map fun r=>DT.s (r.map bx)) (a.map V.ref)
 |_,_,.nil=>by unfold DIns;rfl
 |_,_,.cons r q=>by
  show DIns K H (DT.s _::_) (V.ref _::_);unfold DIns;exact⟨_,_,rfl,o6 (aA.of r),vR q⟩
theorem t5:∀rows:List (List Str),DT.depths (rows.map fun r=>DT.s (r.map bx))<=1
 |[]=>cf _
 |r::rows=>by
  have:=t5 rows;show max (DT.depths (r.map bx)+1) (DT.depths (rows.map fun r=>DT.s (r.map bx)))<=1;rw[bZ];omega
theorem G5{K:Za}{H:Hp}{l q:Addr}{a:Ze}{rows:List (List Str)}{Q:VK}(f:Paired (jp H) a rows)(g:H l=some (.lst (a.map V.ref)))(h:H q=some (.lst []))(k:Q (.bl (decide (rows=[]))) H):se K (.ref l) (.ref q) H Q:=by
 refine⟨.s (rows.map fun r=>DT.s (r.map bx)),.s [],(by unfold kF;exact⟨l,_,rfl,aA.of g,vR f⟩),(by unfold kF;exact⟨q,_,rfl,aA.of h,by unfold DIns;rfl⟩),?_,(by decide),?_⟩
 ·have:=t5 rows;show DT.depths _+1<=8;omega
 ·have e:decide (DT.s (rows.map fun r=>DT.s (r.map bx))=DT.s [])=decide (rows=[]):=decide_eq_decide.2 ⟨fun z=>by injection z with z;exact mM.1 z,fun z=>by rw[z];rfl⟩;rw[e];exact k
theorem jA.of{n m h f:Nat}{rows a:List (List Str)}(R:jA n m h rows)(i:a.length<=n+1)(g:∀r∈a,r∈rows∨(r.length<=m+1/\∀w∈r,Wd w))(j:Er a<=f):jA (n+1) (m+1) f a :=
 ⟨i,fun r e=>(g r e).elim (fun z=>aP (R.row r z) (hV _)) (·.1),fun r e=>(g r e).elim (fun z=>R.wd r z) (·.2),j⟩
inductive oE(vs:List V)(H:Hp)(Q:VK)(E:XK):Prop
 |mk (p c t l1 l2 l3 l4 l:Addr) (ts us:Ze) (J0 J4 J5:Zb) (ds:List av) (rows:List (List Str)) (n m k0:Nat):(vs=[.ref p,.ref t,.ref l])->(fA H p c)->(qH H t l1 l2 l3 l4 ts J0 J4 J5 ds)->(bO J0 J4 J5 ds)->(H l=some (.lst (us.map V.ref)))->(Paired (jp H) us rows)->(jA n m k0 rows)->(n<=900)->(m<=900)->(∀(l':Addr) (us':Ze) (rows':List (List Str)) (H':Hp),H' l'=some (.lst (us'.map V.ref))->Paired (jp H') us' rows'->jA (n+1) (m+1) (2 * k0+30) rows'->fA H' p c->cV p H H'->Q (.ref l') H')->oE vs H Q E
theorem Fk{K:Za}{vs:List V}{H:Hp}{Q:VK}{E:XK}(h:oE vs H Q E):pW K oC cY gS (bJ Q) (start qN vs) H:=by
 obtain⟨p,c,t,l1,l2,l3,l4,l,ts,us,J0,J4,J5,ds,rows,n0,m0,k0,rfl,hp,T,m,hl,hu,R,zn,zm,k⟩:=h;have s:=Paired.length hu;have rl:=R.len;refine⟨_,rfl,.inl ⟨l,_,rfl,.inl (aA.of hl),fun q hq=>?_⟩⟩;have S1:ae H (upd H q (.lst (us.map V.ref))):=ae.new hq;have q1:upd H q (.lst (us.map V.ref)) q=some (.lst (us.map V.ref)):=aa;generalize upd H q (.lst (us.map V.ref))=H1 at S1 q1 ⊢;have an:=hp.ex S1;have T1:=T.same S1;have u1:Paired (jp H1) us rows:=Paired.mapP hu fun _ _ e=>S1 _ _ e;have up:∀{H0 H':Hp}{vs:Ze}{rs:List (List Str)},fA H0 p c->cV p H0 H'->Paired (jp H0) vs rs->Paired (jp H') vs rs:=fun a4 e pr=>Paired.mapP pr fun _ _ h=>e _ _ h (a4.ne_strs h);have qp:q≠p:=(hp.nep hq).symm;have qc:q≠c:=(hp.nec hq).symm;refine⟨_,rfl,cp an (by decide) (by decide) fun a5 H2 _ _ aT J=>?_⟩;have q2:=J _ _ q1 qp;have T2:=T1.ex an J;have u2:=up an J u1;have aX:cV p H H2:=(ae.exB S1).trans J;refine⟨_,rfl,(by show 0<=ao;decide),fun g hg=>?_⟩;have S3:ae H2 (upd H2 g (.lst [])):=ae.new hg;have g3:upd H2 g (.lst []) g=some (.lst []):=aa;generalize upd H2 g (.lst [])=H3 at S3 g3 ⊢;have q3:=S3 _ _ q2;have L:=aT.ex S3;have T3:=T2.same S3;have u3:=up aT (ae.exB S3) u2;have ap:cV p H H3:=aX.trans (ae.exB S3);refine G5 (u3) q3 g3 ⟨_,rfl,?_⟩;by_cases c0:rows=[]
 ·rw[zzr1 c0];refine bI ⟨_,rfl,_,rfl,p,c,t,l1,l2,l3,l4,ts,J0,J4,J5,ds,rfl,L,T3,m,fun w H4 wd B u=>⟨(by show 1<=ao;decide),fun a ha=>⟨(by show 1<=ao;decide),fun b hb=>?_⟩⟩⟩;have S5:ae H4 (upd (upd H4 a (.lst [.str w])) b (.lst [.ref a])):=(ae.new ha).trans (ae.new hb);refine k b [a] [[w]] _ aa (.cons (kp aa hb) .nil) ⟨by show 1<=n0+1;omega,fun r C=>?_,fun r C x hx=>?_,?_⟩ (B.ex S5) ((ap.trans u).trans (ae.exB S5))
  ·rw[pD.1 C];show 1<=m0+1;omega
  ·rw[pD.1 C]at hx;rw[pD.1 hx];exact wd
  ·have:=wd.nl;show Hs w+0+0<=_;omega
 rw[zzr0 c0];refine bC ?_;have M:=List.length_pos_iff.2 c0;refine⟨_,rfl,_,rfl,.inl ⟨q,_,rfl,.inl (aA.of q3),?_⟩⟩;rw[aq,s];refine cp L (by omega) (by omega) fun one H4 o0 o1 B u=>?_;obtain⟨i,rfl⟩:=fO o0;have q4:=u _ _ q3 qp;have T4:=T3.ex L u;have u4:=up L u u3;refine⟨_,rfl,_,rfl,.inl ⟨q,_,rfl,.inl (aA.of q4),?_⟩⟩;rw[aq,s];refine cp B (by omega) (by omega) fun two H5 t0 t1 D N=>?_;obtain⟨j,rfl⟩:=fO t0;have v:=N _ _ q4 qp;have T5:=T4.ex B N;have u5:=up B N u4;have O:cV p H H5:=(ap.trans u).trans N;have iL:i<rows.length:=by omega
 have jL:j<rows.length:=by omega
 obtain⟨ri,U⟩:∃x,rows[i]?=some x:=⟨_,ef iL⟩;obtain⟨rj,as⟩:∃x,rows[j]?=some x:=⟨_,ef jL⟩;obtain⟨ai,a6,ei⟩:=Paired.get u5 U;obtain⟨I,a7,ej⟩:=Paired.get u5 as;have mi:=ca U;have mj:=ca as;have xi:(us.map V.ref)[i]?=some (.ref ai):=by rw[bD,a6];rfl
 have xj:(us.map V.ref)[j]?=some (.ref I):=by rw[bD,a7];rfl
 have ui:i<(us.map V.ref).length:=by rw[aq,s];exact iL
 have uj:j<(us.map V.ref).length:=by rw[aq,s];exact jL
 clear u1 u2 u3 u4 q1 q2 q3 q4 T1 T2 T3 T4 aX ap;have G:∀{y:Hp}{vs xs:Ze}{rs:List (List Str)}{o:HO},y q=some (.lst (xs.map V.ref))->xs≠[]->Paired (jp y) vs rs->Paired (jp (upd y q o)) vs rs:=fun hx ne pr=>Paired.mapP pr fun a r h=>by
  have z:=Ja hx ne h;show upd _ q _ a=_;rw[am z];exact h
 have Y:∀(y:Hp) (ab:Ze) (n:List (List Str)) (x6:Option V),fA y p c->cV p H y->Paired (jp y) ab n->(∃xs:List Addr,y q=some (.lst (xs.map V.ref))/\xs≠[])->jA (n0+1) (m0+1) (2 * k0+30) n->∀o,o=HO.lst (ab.map V.ref)->bf V2 (bJ Q) [some (.ref p),some (.ref t),some (.ref q),some (.int a5),some (.int (i:Int)),some (.int (j:Int)),x6] (upd y q o):=fun y ab n x6 aC a8 pr a9 R' o eo=>by
  subst eo;obtain⟨xs,hx,ne⟩:=a9;exact⟨_,rfl,k q ab n _ aa (G hx ne pr) R' (aC.upd qp.symm qc.symm) fun b o e nb=>by rw[am (ah e hq)];exact a8 _ _ e nb⟩
 have ak:us≠[]:=fun z=>by rw[z]at s;rw[<-s]at M;exact absurd M (mC _)
 have al:=R.nl;refine⟨_,rfl,rfl,_,rfl,?_⟩;refine dz (fun _=>?_) (fun _=>?_)
 ·refine⟨_,rfl,.inl ⟨rfl,_,aA.of v⟩,_,rfl,q,_,i,i,.ref ai,rfl,rfl,v,by omega,by omega,(sI (me ui)).1,xi,?_⟩;refine Y H5 (us.eraseIdx i) (rows.eraseIdx i) _ D O (Paired.out i u5) ⟨us,v,ak⟩ (R.of ?_ (fun r C=>.inl (List.mem_of_mem_eraseIdx C)) ?_) _ (by rw[jR])
  ·have:=List.length_eraseIdx_le rows i;omega
  ·unfold Er at al ⊢;rw[<-jR];have:=qA (rows.map rq) i;omega
 refine⟨_,rfl,rfl,_,rfl,?_⟩;refine dz (fun _=>?_) (fun _=>?_)
 ·refine⟨_,rfl,.inl ⟨rfl,_,aA.of v⟩,_,rfl,_,rfl,_,rfl,q,_,j,.ref I,rfl,rfl,aA.of v,bW xj,q,_,i,.ref I,rfl,rfl,v,c6 ui,by rw[aq,s];exact aU (by omega),?_⟩;refine Y H5 (us.take i++I::us.drop i) (rows.take i++rj::rows.drop i) _ D O (Paired.insR ej i u5) ⟨us,v,ak⟩ (R.of ?_ (fun r C=>.inl ?_) ?_) _ (by rw[aK,aS,jY,kS])
  ·rw[aV,bP,aL,fc];omega
  ·rcases bu.1 C with z|z
   ·exact fM z
   ·rcases bw.1 z with z|z
    ·rw[z];exact mj
    ·exact sS z
  ·have:=Ht mj;unfold Er at al this ⊢;rw[aK,aS,jY,kS,CO];omega
 refine⟨_,rfl,rfl,_,rfl,?_⟩;refine dz (fun _=>?_) (fun _=>?_)
 ·refine⟨_,rfl,_,rfl,q,_,i,_,rfl,rfl,aA.of v,bW xi,?_⟩;refine⟨_,rfl,_,rfl,q,_,j,_,rfl,rfl,aA.of v,bW xj,_,rfl,_,rfl,q,_,i,i,rfl,rfl,v,me ui,?_⟩;refine⟨_,rfl,_,rfl,_,rfl,q,_,j,j,rfl,rfl,aa,me (by rw[jv];exact uj),?_⟩;have a0:(us.map V.ref).set i (.ref I)=(us.set i I).map V.ref:=by rw[jX]
  rw[a0];refine Y (upd H5 q (.lst ((us.set i I).map V.ref))) ((us.set i I).set j ai) ((rows.set i rj).set j ri) _ (D.upd qp.symm qc.symm) (fun b o e nb=>by rw[am (ah e hq)];exact O _ _ e nb) (G v ak (Paired.put ei j (Paired.put ej i u5))) ⟨us.set i I,aa,fun z=>?_⟩ (R.of ?_ (fun r C=>.inl ?_) ?_) _ (congrArg HO.lst (jX (f:=V.ref) (l:=us.set i I) (i:=j) (a:=ai)).symm)
  ·have:=congrArg List.length z;rw[jv,s]at this;rw[this]at M;exact absurd M (mC _)
  ·rw[jv,jv];omega
  ·rcases wv C with z|z
   ·rcases wv z with z|z
    ·exact z
    ·rw[z];exact mj
   ·rw[z];exact mi
  ·have s1:=oG (a:=rq ri) (b:=rq rj) (l:=rows.map rq) (i:=i) (by rw[bD,U];rfl);have s2:=oG (a:=rq rj) (b:=rq ri) (l:=(rows.map rq).set i (rq rj)) (i:=j) (by
    by_cases e:i=j
    ·subst e;rw[B5 (by rw[aq];exact iL)]
    ·rw[y4 e,bD,as];rfl)
   unfold Er at al ⊢;rw[jX,jX];omega
 ·refine⟨_,rfl,_,rfl,_,rfl,_,rfl,q,_,i,_,rfl,rfl,aA.of v,bW xi,p,c,t,l1,l2,l3,l4,ai,ts,J0,J4,J5,ds,ri,rfl,D,T5,m,ei,aP (R.row ri mi) zm,R.wd ri mi,fun l' r' y bd z1 z2 z3 aC aH=>?_⟩;have q6:=aH _ _ v qp;refine⟨_,rfl,_,rfl,q,_,i,i,rfl,rfl,q6,me ui,?_⟩;refine Y y (us.set i l') (rows.set i r') _ aC (O.trans aH) (Paired.put (R:=jp y) bd i (up D aH u5)) ⟨us,q6,ak⟩ (R.of ?_ (fun r C=>?_) ?_) _ (by rw[jX])
  ·rw[jv];omega
  ·rcases wv C with z|z
   ·exact .inl z
   ·rw[z];exact .inr ⟨by have:=R.row ri mi;omega,z2⟩
  ·have s1:=oG (a:=rq ri) (b:=rq r') (l:=rows.map rq) (i:=i) (by rw[bD,U];rfl);unfold Er at al ⊢;rw[jX];omega
theorem CA{K:Za}{H:Hp}{t u:Addr}{p:Str}{n:Nat}{Q:VK}{E:XK}(h:H t=some (.tup [.str p,.int (n:Nat)]))(g:H u=some (.tup [.str p,.int (n:Nat)]))(k:∀a,ae H a->Q (.bl true) a):eK K 4 [.ref t,.ref u] H Q E :=
 vO (IC h) (IC g) (show(1:Nat)<=4 by decide) (by decide) rfl k
theorem Bc{K:Za}{H:Hp}{t u j l m n o p q r:Addr}{w x:Ze}{e f i:Zb}{a:List av}{Q:VK}{E:XK}(F:GF e f i a)(y:Gw a)(h:H t=some (.lst [.ref j,.ref l,.ref m,.ref n]))(L:Lists H j l m n w e f i a)(g:H u=some (.lst [.ref o,.ref p,.ref q,.ref r]))(M:Lists H o p q r x e f i a)(k:∀v,ae H v->Q (.bl true) v):eK K 4 [.ref t,.ref u] H Q E :=
 vO (d:=.s (qi e f i a)) (L.dr h) (M.dr g) (by show DT.depths _+1<=4;have:=yo e f i a;omega) (by decide) (EW F fun d z=>by have:=y d z;omega) k
theorem DP(e:Zb):(eg "" e).cps.toList=(e.map fun y:Str=>y.cps.toList).flatten:=by
 rw[qw];cases e with
 |nil=>rfl
 |cons y e =>
  show(e.foldl (fun(a p:Str)=>a++("":Str)++p) y).cps.toList=_;rw[aS,List.flatten_cons]
  induction e generalizing y with
  |nil=>simp
  |cons p g f =>
   rw[mN,f,dH,dH,aS,List.flatten_cons,show("":Str).cps.toList=[]from rfl,dA,dU]
theorem Dk(rows:List (List Str)):(eg "" (rows.map fun r=>eg " " r++("\n":Str))).cps.toList=nX rows:=by
 rw[DP,eZ];unfold nX;congr 1;refine List.map_congr_left fun r _=>?_;show(eg " " r++("\n":Str)).cps.toList=_;rw[dH,qw,vL,oY,CH]
theorem Ks{J0 k g:Zb}{i:List av}(m:bO J0 k g i)(z:g.length<=6)(n:i.length<=600):jA 603 7 0 (bG J0 k g i):=by
 have pl:=m.pl;have B:=oH J0 k g i;have C:=m.asks4;have D:=m.says4;refine⟨by omega,fun r a=>?_,fun r a w j=>⟨aP ((m.rows r a).2 w j) (by decide),(pl r a w j).sp⟩,?_⟩
 ·rcases bu.mp a with h|h
  ·unfold bo at h;simp only[bw,iE,or_false]at h;rcases h with rfl|rfl|rfl<;>(rw[bP];omega)
  ·obtain⟨d,o,rfl⟩:=aR.mp h;have:d.sg.length<=2:=by
    rcases(m.good d o).sg with⟨_,_,e⟩|⟨_,_,e⟩|e<;>rw[e]<;>simp[aJ]
   unfold a_;simp;omega
 ·have h:∀f:List (List Str),(∀r∈f,∀w∈r,10∉w.cps.toList)->Er f=0:=by
   intro f
   induction f with
   |nil=>intro _;rfl
   |cons r f s =>
    intro q;have t:=s fun x hx=>q x (bQ _ hx);have u:∀l:List Str,(∀w∈l,10∉w.cps.toList)->rq l=0:=by
     intro l
     induction l with
     |nil=>intro _;rfl
     |cons w l v =>
      intro p;have y:=v fun x hx=>p x (bQ _ hx);show Hs w+rq l=0;rw[y];unfold Hs;rw[List.count_eq_zero_of_not_mem (p w bR)]
    show rq r+Er f=0;rw[t,u r (q r bR)]
  rw[h _ fun r a w j=>(pl r a w j).nl];exact aG _
abbrev Bl(K:Za):TS :=
 bf (aW (eK K 4) (ba (aW dW (aF V5)) (aW dW (aF V5))))
theorem DO{K:Za}{H:Hp}{Q:VK}{G I J L M N:Option V}{x:Str}(s:Gv x)(k:∀O,Q (.bl true) O):Bl K (bJ Q) [G,I,J,L,M,some (.str x),N] H:=by
 refine⟨_,rfl,x,rfl,s,fun n g t B w C=>?_,fun T U Y ds re D sg fw zd tv=>?_⟩
 ·refine⟨_,rfl,x,rfl,s,fun n' q t' E h m=>?_,fun _ _ _ _ _ _ _ _ _ tv=>by rw[g]at tv;cases tv⟩;rw[g]at q;cases q;exact CA (m _ _ w) h fun a _=>k a
 obtain⟨o,v⟩:=Av T U Y ds;refine⟨o,v,fun u r q1 q2 q3 q4 us B hr L8 C=>?_,fun pt n u t B w C=>?_⟩
 ·subst u;refine⟨_,rfl,x,rfl,s,(fun n g=>by rw[tv]at g;cases g),fun i j f y _ l _ _ _ _=>?_⟩;obtain⟨rfl,rfl,rfl,rfl⟩:=t6 (D.symm.trans l);refine⟨none,v,fun _ r' ab ai aj ak al E z L9 m=>?_,fun p n e=>by cases e⟩;exact Bc fw sg (m _ _ hr) (L8.same m) z L9 fun a _=>k a
 ·refine⟨_,rfl,x,rfl,s,(fun n g=>by rw[tv]at g;cases g),fun i j f y _ l _ _ _ _=>?_⟩;obtain⟨rfl,rfl,rfl,rfl⟩:=t6 (D.symm.trans l);refine⟨o,v,(fun e=>by rw[u]at e;cases e),fun p' n' e t' E h m=>?_⟩;rw[u]at e;cases e;exact CA (m _ _ w) h fun a _=>k a
inductive sp_law88(K:Za)(vs:List V)(H:Hp)(Q:VK)(E:XK):Prop
 |mk (a:Addr) (ns:List Int):(vs=[.ref a])->(aA K H a (ns.map V.int))->(ns.length<=63)->(∀H',Q (.bl true) H')->sp_law88 K vs H Q E
theorem Fe{K:Za}{s:List V}{H:Hp}{Q:VK}{E:XK}(h:sp_law88 K s H Q E):GZ K (eK K 4) dW dW cY oE (kb K) oz (sA K) (bJ Q) (start C8 s) H:=by
 obtain⟨a,ns,rfl,hs,hn,k⟩:=h;refine⟨_,rfl,a,ns,rfl,hs,hn,fun p c H1 _ as S1=>?_⟩;refine⟨_,rfl,_,rfl,cp as (by decide) (by decide) fun aC H2 f0 f1 aH bd=>?_⟩;refine⟨p,c,6,aC,rfl,aH,by decide,by decide,f0,by omega,fun t l1 l2 l3 l4 ts v B C D H3 T m zr zd aT bi=>?_⟩;clear S1 as aH bd bi;have R0:=Ks m zr zd;have zl:=m.len;have zn:=oH v B C D;refine⟨_,rfl,Dj T m fun H4 S4=>⟨rfl,_,_,rfl,rfl,(by decide +kernel),aP zl rF,?_,?_⟩⟩
 ·rw[m.split,aV,aq,zn];exact c6 (bb (by simp;omega))
 rw[m.split];intro l hl;have T4:=T.same S4;have aX:=aT.ex S4;have S5:ae H4 (upd H4 l (.lst (((bG v B C D).map ja++[("":Str)]).map V.str))):=ae.new hl;have e5:upd H4 l (.lst (((bG v B C D).map ja++[("":Str)]).map V.str)) l=some (.lst ((((bG v B C D).map ja).map V.str)++[.str ""])):=by rw[aa,aK];rfl
 generalize upd H4 l (.lst (((bG v B C D).map ja++[("":Str)]).map V.str))=H5 at S5 e5 ⊢;refine⟨_,rfl,_,rfl,l,_,rfl,aA.of e5,fun q hq=>?_⟩;rw[uE];have S6:ae H5 (upd H5 q (.lst (((bG v B C D).map ja).map V.str))):=ae.new hq;have e6:upd H5 q (.lst (((bG v B C D).map ja).map V.str)) q=some (.lst (((bG v B C D).map ja).map V.str)):=aa;generalize upd H5 q (.lst (((bG v B C D).map ja).map V.str))=H6 at S6 e6 ⊢;refine⟨q,rfl,⟨_,aA.of e6⟩,fun f hf=>?_⟩;refine cU (xs:=((bG v B C D).map ja).map V.str) (fun i s H'=>∃G:List Addr,s=G.map V.ref/\pb f H' G ((bG v B C D).take i)/\ae H6 H'/\H' f=some (.lst s)) ⟨[],rfl,.nil,ae.new hf,aa⟩ (fun i s H' _ zq=>by obtain⟨_,_,_,S,h'⟩:=zq;exact⟨h',aA.of (S _ _ e6)⟩) ?_ ?_;rotate_left
 ·rintro i s H' x hx hi ⟨G,rfl,R,S,f'⟩;obtain⟨t,ht,rfl⟩:=dh hx;rw[bD]at ht;obtain⟨r,L,rfl⟩:=pG.mp ht;have j:=ca L;refine gN (pO ⟨_,rfl,rfl,_,_,rfl,rfl,(by decide +kernel),?_,?_,?_⟩)
  ·have:=Cu (m.rows r j);exact aP (aP this (by decide)) rF
  ·rw[vK (bO.rows0 r j) fun w hw=>(m.pl r j w hw).sp];exact c6 (bb (by have:=(m.rows r j).1;omega))
  rw[vK (bO.rows0 r j) fun w hw=>(m.pl r j w hw).sp];intro u M;have nu:u≠f:=fun z=>by rw[z,f']at M;cases M
  refine⟨kp f' M,?_,uf hi ⟨G++[u],by rw[aK];rfl,?_,?_,aa⟩⟩
  ·rw[aq,Paired.length R,aL];exact bb (by omega)
  ·rw[take_snoc L];exact R.add (ae.new M) nu aa
  ·intro b o e;rw[am (ah e hf)];exact ae.new M _ _ (S _ _ e)
 rintro s H7 ⟨G,rfl,R7,S7,f7⟩;rw[aq,aq,cO]at R7;have u7:Paired (jp H7) G (bG v B C D):=Paired.mapP R7 fun _ _ e=>e.2;have al:=S5.trans (S6.trans S7);have N:=aX.ex al;have T7:=T4.same al;clear S4 S5 S6 S7 al hl hq hf e5 e6 R7 T T4 aT aX zl zn;refine⟨_,rfl,cp N (by decide) (by decide) fun r8 H8 r0 r1 bl an=>?_⟩;obtain⟨tn,rfl⟩:=fO r0;refine⟨tn,rfl,by omega,by omega,?_⟩
 let zI:Nat->L2.St->Hp->Prop:=fun i σ H'=>∃(l:Addr) (G:Ze) (rows:List (List Str)) (x4:Option V),σ=[some (.ref a),some (.ref p),some (.ref t),some (.ref l),x4,none,none]/\fA H' p c/\qH H' t l1 l2 l3 l4 ts v B C D/\H' l=some (.lst (G.map V.ref))/\Paired (jp H') G rows/\jA (603+i) (7+i) (30 * 2 ^ i-30) rows
 refine mf (lo:=0) (n:=((tn:Int)).toNat) zI ⟨f,G,_,_,rfl,bl,T7.ex N an,an _ _ f7 (N.ne_refs f7),Paired.mapP u7 fun _ _ h=>an _ _ h (N.ne_strs h),R0⟩ ?_ ?_
 ·rintro i σ H9 hi ⟨l,G,rows,x4,rfl,O,T9,U,u9,R9⟩;have i3:i<3:=by omega
  refine gN ⟨_,rfl,_,rfl,_,rfl,p,c,t,l1,l2,l3,l4,l,ts,G,v,B,C,D,rows,603+i,7+i,30 * 2 ^ i-30,rfl,O,T9,m,U,u9,R9,by omega,by omega,fun l' bm ap bn b0 b1 R' I a0=>⟨l',bm,ap,_,rfl,I,T9.ex O a0,b0,b1,⟨R'.len,R'.row,R'.wd,?_⟩⟩⟩;have h1:1<=2 ^ i:=Nat.one_le_two_pow;have:=R'.nl;rw[Nat.pow_succ];omega
 rintro σ H9 ⟨l,G,rows,x4,rfl,O,T9,U,u9,R9⟩;have t3:(tn:Int).toNat<=3:=by omega
 have h8:2 ^ (tn:Int).toNat<=8:=Nat.pow_le_pow_right (n:=2) (by decide) t3;have R:jA 606 10 210 rows:=⟨aP R9.len (by omega),fun r L=>aP (R9.row r L) (by omega),R9.wd,aP R9.nl (by omega)⟩;have Y:=Ch R;rw[<-Dk]at Y;clear R9 h8;have b3:=Paired.length u9;have rl:=R.len;refine⟨rfl,_,rfl,l,rfl,⟨_,aA.of U⟩,fun g hg=>?_⟩;have all:=Y.all
 let J:List Str->Str:=fun r=>eg " " r++("\n":Str)
 have ab:∀r∈rows,(eg " " r).length<=310:=fun r L=>by
  have h1:=Ch R;have h3:(jn 32 (r.map fun w:Str=>w.cps.toList)).length<=310:=by
   have h1:=Bo 32 (r.map (fun w:Str=>w.cps.toList));have h2:∀l:List Str,(∀w∈l,Wd w)->((l.map (fun w:Str=>w.cps.toList)).map List.length).sum<=30 * l.length:=by
    intro l
    induction l with
    |nil=>intro _;exact aG _
    |cons w l ih =>
     intro h;have h3:=ih fun x hx=>h x (bQ _ hx);have h4:=(h w bR).1;rw[aZ]at h4;rw[aS,aS,c8,bP];omega
   have h3:=h2 r (R.wd r L);have h4:=R.row r L;rw[aq]at h1;omega
  rw[aZ,qw,vL,oY];exact h3
 refine cU (xs:=G.map V.ref) (fun i s H'=>s=((rows.take i).map J).map V.str/\ae H9 H'/\H' g=some (.lst s)) ⟨rfl,ae.new hg,aa⟩ (fun i s H' _ zq=>by obtain⟨_,S,h'⟩:=zq;exact⟨h',aA.of (S _ _ U)⟩) ?_ ?_;rotate_left
 ·rintro i s H' x hx hi ⟨rfl,S,g'⟩;obtain⟨u,M,rfl⟩:=dj hx;obtain⟨r,L,b4⟩:=Paired.getL u9 M;have a4:=S _ _ b4;have j:=ca L;refine gN (pO ⟨rfl,_,rfl,_,u,r,rfl,rfl,aA.of a4,?_,_,_,rfl,rfl,?_,g',?_,uf hi ⟨?_,fun b o e=>?_,aa⟩⟩)
  ·have h2:∀l:List Str,(∀w∈l,Wd w)->(l.map (·.length)).sum<=30 * l.length:=by
    intro l
    induction l with
    |nil=>intro _;exact aG _
    |cons w l ih =>
     intro h;have h3:=ih fun x hx=>h x (bQ _ hx);have h4:=(h w bR).1;rw[aS,c8,bP];omega
   have:=h2 r (R.wd r j);have:=R.row r j;show _+r.length * 1<=16777216;omega
  ·have:=ab r j;show(eg " " r).length+1<=ao;exact aP (Nat.succ_le_succ this) (by decide)
  ·rw[aq,aq,aL];exact aU (by omega)
  ·rw[take_snoc L,aK,aK];rfl
  ·rw[am (ah e hg)];exact S _ _ e
 rintro s bn ⟨rfl,b5,a5⟩;rw[aq,b3,cO]at a5;have I:=O.ex b5;refine⟨_,g,rows.map J,rfl,rfl,aA.of a5,?_,?_⟩
 ·have h2:∀l:List (List Str),(∀r∈l,(eg " " r).length<=310)->((l.map J).map (·.length)).sum<=311 * l.length:=by
   intro l
   induction l with
   |nil=>intro _;exact aG _
   |cons r l ih =>
    intro h;have h3:=ih fun x hx=>h x (bQ _ hx);have h4:=h r bR;have h5:(J r).length=(eg " " r).length+1:=by rw[aZ,dH,aV,<-aZ];rfl
    rw[aS,aS,c8,bP];omega
  have:=h2 rows ab;show _+(rows.map J).length * 0<=16777216;omega
 have Y:TB 310 9 816 188466 (eg "" (rows.map J)).cps.toList:=Y;generalize eg "" (rows.map J)=x at Y;have a6:=Y.all;rw[<-aZ]at a6;refine⟨_,rfl,cp I (by decide) (by decide) fun w ce w0 w1 ai b7=>?_⟩;have aj:∀(y:Str),Gv y->∀H',Bl K (bJ Q) [some (.ref a),some (.ref p),some (.ref t),some (.ref l),x4,some (.str y),some (.int w)] H':=fun y ty H'=>DO ty k;have ak:∀(y:Str),TB 310 9 816 188466 y.cps.toList->∀H',fA H' p c->(au (cu (bc (aI mw V6 (tC (.int 1)))) (aN (aI fL V5 (aI (cy K) (eJ (ay (tC (.str "\n")) (fu (tC (.str " ")) (tC (.str "x")) (tC (.str " \n"))))) (aW cY (ba V1 (tC (.int 4)))))) U5) (br)) (Bl K)) (bJ Q) [some (.ref a),some (.ref p),some (.ref t),some (.ref l),x4,some (.str y),some (.int w)] H':=fun y ty H' a7=>by
  have a8:=ty.all;rw[<-aZ]at a8;refine⟨_,rfl,rfl,_,rfl,dz (fun _=>?_) (fun _=>aj y (ty.mono (by decide) (by decide) (by decide) (by decide)) _)⟩;refine⟨_,rfl,(by show 4<=ao;decide),fun u M=>⟨_,rfl,cp (a7.ex (ae.new M)) (by decide) (by decide) fun r ch r0 r1 b8 a9=>?_⟩⟩;have b6:=a9 u _ aa (a7.nep M).symm;obtain⟨b,hb,b2⟩:∃b:Str,yF [V.str "\n",.str " ",.str "x",.str " \n"] r=some (.str b)/\b.length<=2:=by
   have:r=0∨r=1∨r=2∨r=3:=by omega
   rcases this with rfl|rfl|rfl|rfl
   ·exact⟨_,rfl,by decide +kernel⟩
   ·exact⟨_,rfl,by decide +kernel⟩
   ·exact⟨_,rfl,by decide +kernel⟩
   ·exact⟨_,rfl,by decide +kernel⟩
  refine⟨u,_,r,_,rfl,rfl,aA.of b6,hb,_,_,rfl,rfl,aP (show y.length+b.length<=2000000 by omega) rF,?_⟩;refine aj (y++b) ?_ _;show TB _ _ _ _ (y++b).cps.toList;rw[dH];rw[aZ]at b2;exact(GX ty b2).mono (by decide) (by decide) (by decide) (by decide)
 refine⟨_,rfl,rfl,_,rfl,dz (fun _=>?_) (fun _=>ak x Y _ ai)⟩;refine⟨_,rfl,_,rfl,.inr ⟨x,rfl,aP (show x.length<=2000000 by omega) rF,_,_,rfl,rfl,_,rfl,x,rfl,aP (show x.length<=2000000 by omega) rF,ak _ ?_ _ ai⟩⟩;refine IT Y (n:=HT.sIx x.length x.length (some ((x.length:Int)-1))) ?_;show((x.cps.toList.drop 0).take (HT.sIx x.length x.length (some ((x.length:Int)-1))-0)).toArray.toList=_;rw[kT,sV]
def gP(i:Nat):Stmt:=PySem.Challenge.pw_mumtrial_k88_rows_bent.main.body.getD i (.Pass ⟨0,0,0,0⟩)
local macro_rules | `(tactic| walk_at "s")=>`(tactic| exact⟨rfl,rfl,rfl,by decide +kernel,rfl,by decide +kernel,by decide +kernel⟩)
local macro_rules | `(tactic| walk_at "l")=>`(tactic| (intro _ _ _ _ h;first|exact Kz h|exact len_g h|(cases h;subst_vars;rfl)|(obtain⟨_,_,h,_⟩:=h;subst h;rfl)|((repeat obtain⟨_,h⟩:=h);subst_vars;rfl)))
theorem zzlS{e:List Value}{n:Nat}(h:e.length=n+1):∃ a t,e=a::t∧t.length=n:=by
  cases e with
  |nil=>cases h
  |cons a t=>exact⟨a,t,rfl,Nat.succ.inj h⟩
local macro_rules | `(tactic| walk_at "b")=>`(tactic| (intro _ _ _ _ _ _ us hl;(repeat (have h:=zzlS hl;clear hl;obtain⟨_,_,e,hl⟩:=h;subst e));cases List.eq_nil_of_length_eq_zero hl;rfl))
def KW(K:Za)(x qual:Str)(st:Stmt)(f:Addr):Prop:=∃(oc:Value) (od an:Option Addr) (sl:Array (Option Value)) (kV dc pm cd ct:Value),
 K.lookup f=some ⟨oc,od,.func (iG x qual (iq st) (fD st) (bA st) .none kV dc pm an cd ct),sl⟩/\mU K cd qual=true/\eF K (.ref f)=true
theorem Gg{K:Za}{x a:Str}{st:Stmt}{f:Addr}{e:Value}{g h:Option Addr}{i:Array (Option Value)}{kV j m cd n:Value}(l:K.lookup f=some ⟨e,g,.func (iG x a (iq st) (fD st) (bA st) .none kV j m h cd n),i⟩)
  (c:mU K cd a=true) (k:eF K (.ref f)=true):KW K x a st f:=⟨e,g,h,i,kV,j,m,cd,n,l,c,k⟩
def iY(K:Za)(x:Str)(st:Stmt):Prop:=∃f,cI K cb x=some (some (.ref f))/\KW K x x st f
theorem fnG_mk{K:Za}{x:Str}{st:Stmt}{f:Addr}{e:Value}{g h:Option Addr}{i:Array (Option Value)}{kV j m cd n:Value}(a:cI K cb x=some (some (.ref f)))(l:K.lookup f=some ⟨e,g,.func (iG x x (iq st) (fD st) (bA st) .none kV j m h cd n),i⟩)
  (c:mU K cd x=true) (k:eF K (.ref f)=true):iY K x st:=⟨f,a,Gg l c k⟩
def GB(K:Za)(C:Addr)(m qual:Str)(st:Stmt):Prop:=∃f,cc K (.ref C) m=some (some (.ref f))/\nQ K (.ref f)=true/\KW K m qual st f
theorem fnM_mk{K:Za}{C:Addr}{m e:Str}{st:Stmt}{f:Addr}{g:Value}{h j:Option Addr}{n:Array (Option Value)}{kV o p cd q:Value}(a:cc K (.ref C) m=some (some (.ref f)))(i:nQ K (.ref f)=true)
  (l:K.lookup f=some ⟨g,h,.func (iG m e (iq st) (fD st) (bA st) .none kV o p j cd q),n⟩) (c:mU K cd e=true) (k:eF K (.ref f)=true):GB K C m e st:=⟨f,a,i,Gg l c k⟩
theorem KW.fun_{K:Za}{x a:Str}{st:Stmt}{f:Addr}(T:KW K x a st f):∃e,IL K x a st f e:=by
 obtain⟨g,h,i,j,kV,m,n,cd,o,l,c,k⟩:=T;exact⟨_,Gf (st:=st) l c k⟩
def Kn:Sp:=fun _ _ _ _=>False
theorem Ky{P:bF}{w:World}{K:Za}{a:Str->Option Value}{base:Heap}{k:Nat}{f:Addr}{e:fe}{g:Zb}:iX P w K a base CX0 k f e g Kn:=⟨fun _ _ _ _ h=>h.elim,fun _ _ _ _ _ _ _ _ _ _ _ _ _ h=>h.elim⟩
def JP(K:Za)(a:Addr)(ws:Zb):Prop:=∀H,cq K H a (ws.map V.str)
theorem Cc{K:Za}{a:Addr}{f:Zb}{o:Obj}{e:Array Value}{n:Nat}(l:K.lookup a=some o)(c:o.cls=.type "tuple")(d:o.data=.seq e n)(z:e.size<=ao)(v:bg (f.map V.str) e.toList):JP K a f :=
 fun _=>.inr ⟨o,e,n,l,c,d,z,v⟩
section
variable{P:bF}{w:World}{K:Za}{mg:Str->Option Value}{base h:Heap}{C:Addr}{x qual:Str}{st:Stmt}{N ps:Zb}{k:Nat}{sp:Sp}
abbrev Am(ps:Zb)(sp:Sp):Prop:=∀vs H Q E,sp vs H Q E->vs.length=ps.length
abbrev BodyOk(CX:En)(P:bF)(w:World)(K:Za)(mg:Str->Option Value)(base:Heap)(qual:Str)(st:Stmt)(N:Zb)(k:Nat)(sp:Sp)(nox:Cx->Cx):Prop:=N.Nodup->∀(f:Addr) (cdv:Value) (A:Around) (outer:List Env) (s:Shared) (H:Hp) (vs:List V) (Q:VK) (E:XK),dQ k (A.deeper (envOfC qual (bA st) s.heap.objs.size f cdv))->(A.deeper (envOfC qual (bA st) s.heap.objs.size f cdv)).units+16<cLine->sp vs H Q E ->
 ∃t,yJ (nox (uD CX P w K mg base N qual (bA st) f cdv A outer s H E)) (fD st) t/\t (bJ Q) (start N vs) H
abbrev uU(x qual:Str)(st:Stmt)(ps:Zb):Prop:=∀(kV doc pm:Value) (an:Option Addr) (cdv ct:Value) (us:Zf),us.length=ps.length->bindArgs (iG x qual (iq st) (fD st) (bA st) .none kV doc pm an cdv ct) ⟨us,[]⟩=pure (ps.zip us)
theorem dG(X:K.In h)(G:h.Ns cb mg)(T:iY K x st)(b:BodyOk CX0 P w K mg base x st N k sp Cx.nox)(i:uU x x st ps)(S:gK N ps (bA st):=by walk_at "s")(l:Am ps sp:=by walk_at "l"):i8 P w K mg base x ps (k+1) sp:=by
 obtain⟨f,a,t⟩:=T;obtain⟨j,F⟩:=t.fun_;exact⟨f,j,F.ok S l fun e A outer s H m Q E g h=>b S.nd f e A outer s H m Q E g (v9 g) h,eX X G a,F.kp,F.binds i⟩
theorem dM(j:Eu K C)(T:GB K C x qual st)(b:BodyOk CX0 P w K mg base qual st N k sp Cx.nox)(m:uU x qual st ps)(S:gK N ps (bA st):=by walk_at "s")(l:Am ps sp:=by walk_at "l"):JV P w K mg base C x ps (k+1) sp:=by
 obtain⟨f,a,i,t⟩:=T;obtain⟨n,F⟩:=t.fun_;exact⟨f,n,F.ok S l fun e A outer s H o Q E g h=>b S.nd f e A outer s H o Q E g (v9 g) h,j,⟨a,i,F.kp⟩,F.binds m⟩
theorem K9(X:K.In h)(G:h.Ns cb mg)(T:iY K x st)(b:BodyOk (Eo P w K) P w K mg base x st N k sp id)(i:uU x x st ps)(S:gK N ps (bA st):=by walk_at "s")(l:Am ps sp:=by walk_at "l"):BS P w K mg base x ps (k+1) sp:=by
 obtain⟨f,a,t⟩:=T;obtain⟨j,F⟩:=t.fun_;exact⟨f,j,F.okX S l fun e A outer s H m Q E g h=>b S.nd f e A outer s H m Q E g (v9 g) h,eX X G a,F.kp,F.binds i⟩
theorem dNX{y:Str}(j:mg y=some (.ref C))(m:yX K C=true)(n:eF K (.ref C)=true)(T:GB K C "__init__" qual st)(b:BodyOk (Eo P w K) P w K mg base qual st N k sp id)(o:uU "__init__" qual st ps)(S:gK N ps (bA st):=by walk_at "s")(l:Am ps sp:=by walk_at "l"):JT P w K mg base y C ps (k+1) sp:=by
 obtain⟨f,a,i,t⟩:=T;obtain⟨p,F⟩:=t.fun_;exact⟨f,p,F.okX S l fun e A outer s H q Q E g h=>b S.nd f e A outer s H q Q E g (v9 g) h,j,⟨m,a,i,n⟩,F.binds o⟩
theorem dXN{y:Str}(j:mg y=some (.ref C))(m:kE K C)(n:eF K (.ref C)=true)(T:GB K C "__init__" qual st)(b:BodyOk CX0 P w K mg base qual st N k sp Cx.nox)(o:uU "__init__" qual st ps)(S:gK N ps (bA st):=by walk_at "s")(l:Am ps sp:=by walk_at "l"):Gu P w K mg base y C ps (k+1) sp:=by
 obtain⟨f,a,i,t⟩:=T;obtain⟨p,F⟩:=t.fun_;exact⟨f,p,F.ok S l fun e A outer s H q Q E g h=>b S.nd f e A outer s H q Q E g (v9 g) h,j,m,a,i,n,F.binds o⟩
end
structure Zs(mg:Str->Option Value):Prop where
 all:mg "all"=none
 bool:mg "bool"=none
 dict:mg "dict"=none
 enumerate:mg "enumerate"=none
 int:mg "int"=none
 isinstance:mg "isinstance"=none
 len:mg "len"=none
 list:mg "list"=none
 range:mg "range"=none
 str:mg "str"=none
 tuple:mg "tuple"=none
 zip:mg "zip"=none
structure Cs(K:Za)(mg:Str->Option Value)(C Cx Ct a_STILL a_HEADS C_NoText:Addr):Prop where
 LETTERS:Gc mg "LETTERS" (.str "abcdefghijklmnopqrstuvwxyz")
 LONGEST_NAME:Gc mg "LONGEST_NAME" (.int 8)
 MOST_WORDS:Gc mg "MOST_WORDS" (.int 4)
 MOST_ROOMS:Gc mg "MOST_ROOMS" (.int 150)
 MOST_DOORS:Gc mg "MOST_DOORS" (.int 2000)
 STILL:Gc mg "STILL" (.ref a_STILL)
 HEADS:Gc mg "HEADS" (.ref a_HEADS)
 still:JP K a_STILL aJ
 heads:JP K a_HEADS fB
 mc:MC K C
 cm:mg "Machine"=some (.ref C)
 makes:yX K C=true
 kc:eF K (.ref C)=true
 xc:XC K Cx
 xb:II K Ct
 NoMachine:mg "NoMachine"=some (.ref Cx)
 TrialError:mg "TrialError"=some (.ref Ct)
 kx:eF K (.ref Cx)=true
 xt:XO K Ct j_
 xg:XG K
 x_NoMachine:XX K mg "NoMachine" Cx Ct
 nd:[Ct,Cx,C_NoText].Nodup
 x_NoText:XX K mg "NoText" C_NoText Ct
 na_NoText_number:db K C_NoText "number"
structure Ts(K:Za)(C Cx C_NoText:Addr):Prop where
 f_law_spread:iY K "_law_spread" (gP 34)
 f_law_open:iY K "_law_open" (gP 35)
 f_law_anew:iY K "_law_anew" (gP 36)
 f_law_take:iY K "_law_take" (gP 37)
 f_law_names:iY K "_law_names" (gP 38)
 f_law_put:iY K "_law_put" (gP 40)
 f_law_draw_doors:iY K "_law_draw_doors" (gP 41)
 f_law_model:iY K "_law_model" (gP 42)
 f_law_still_on:iY K "_law_still_on" (gP 39)
 f_NoMachine_init:GB K Cx "__init__" "NoMachine.__init__" (kB (gP 3) 0)
 f_is_name:iY K "is_name" (gP 12)
 f_as_keys:iY K "as_keys" (gP 13)
 f_first_wrong_name:iY K "first_wrong_name" (gP 14)
 f_door_signs:iY K "door_signs" (gP 15)
 f_first_wrong_door:iY K "first_wrong_door" (gP 16)
 f_goals_by_start_and_sign:iY K "goals_by_start_and_sign" (gP 17)
 f_led_by_still:iY K "led_by_still" (gP 18)
 f_first_led_round:iY K "first_led_round" (gP 19)
 f_need_none:iY K "need_none" (gP 20)
 f_need_parts:iY K "need_parts" (gP 21)
 f_doors_by_start:iY K "doors_by_start" (gP 22)
 f_has_asks_alone:iY K "has_asks_alone" (gP 23)
 f_Machine___init__:GB K C "__init__" "Machine.__init__" (kB (gP 24) 0)
 f_NoText_init:GB K C_NoText "__init__" "NoText.__init__" (kB (gP 4) 0)
 f_Machine_asks:GB K C "asks" "Machine.asks" (kB (gP 24) 1)
 f_Machine_says:GB K C "says" "Machine.says" (kB (gP 24) 2)
 f_Machine_rooms:GB K C "rooms" "Machine.rooms" (kB (gP 24) 3)
 f_Machine_doors:GB K C "doors" "Machine.doors" (kB (gP 24) 4)
 f_law_same:iY K "_law_same" (gP 51)
 f_law_text_of:iY K "_law_text_of" (gP 52)
 f_law_letters:iY K "_law_letters" (gP 43)
 f_law_is_name:iY K "_law_is_name" (gP 44)
 f_law_first_wrong:iY K "_law_first_wrong" (gP 46)
 f_law_is_sign:iY K "_law_is_sign" (gP 47)
 f_law_wrong_door:iY K "_law_wrong_door" (gP 48)
 f_law_round:iY K "_law_round" (gP 49)
 f_law_due:iY K "_law_due" (gP 50)
 f_is_head:iY K "is_head" (gP 27)
 f_is_door:iY K "is_door" (gP 28)
 f_is_row:iY K "is_row" (gP 29)
 f_need_rows:iY K "need_rows" (gP 30)
 f_door_of:iY K "door_of" (gP 31)
 f_read:iY K "read" (gP 32)
 f_law_good_row:iY K "_law_good_row" (gP 53)
 f_law_read_due:iY K "_law_read_due" (gP 54)
 f_law_text:iY K "_law_text" (gP 45)
 f_law_read_told:iY K "_law_read_told" (gP 55)
 f_law_some_word:iY K "_law_some_word" (gP 56)
 f_law_bent_words:iY K "_law_bent_words" (gP 57)
 f_law_bent_lines:iY K "_law_bent_lines" (gP 58)
 f_law88:iY K "law" (gP 59)
section
variable{P:bF}{w:World}{K:Za}{mg:Str->Option Value}{base h:Heap}{C Cx Ct a_STILL a_HEADS C_NoText:Addr}
section
variable(P:bF)(w:World)(K:Za)(mg:Str->Option Value)(C Cx Ct C_NoText:Addr)
abbrev kH:Prop:=∀base,i8 P w K mg base "_law_spread" ["cell","at"] 1 lV
abbrev uW:Prop:=∀base,i8 P w K mg base "_law_open" ["script"] 1 (sA K)
abbrev nL:Prop:=∀base,i8 P w K mg base "_law_anew" ["pen"] 1 xF
abbrev dZ:Prop:=∀base,i8 P w K mg base "_law_take" ["pen","many"] 2 cY
abbrev lS:Prop:=∀base,i8 P w K mg base "_law_names" ["pen","many"] 3 oy
abbrev qR:Prop:=∀base,i8 P w K mg base "_law_put" ["doors","door"] 1 tS
abbrev gB:Prop:=∀base,i8 P w K mg base "_law_draw_doors" ["pen","asks","says","rooms","full"] 3 gG
abbrev rP:Prop:=∀base,i8 P w K mg base "_law_model" ["pen","most","full"] 4 oz
abbrev i4:Prop:=∀base,i8 P w K mg base "_law_still_on" ["doors","rooms"] 1 (jf K)
abbrev lT:Prop:=∀base,Gu P w K mg base "NoMachine" Cx ["self","part","number"] 1 (om Cx)
abbrev qU:Prop:=∀base,i8 P w K mg base "is_name" ["text"] 1 sp_is_name
abbrev jV:Prop:=∀base,i8 P w K mg base "as_keys" ["things"] 1 (sp_as_keys K)
abbrev fH:Prop:=∀base,i8 P w K mg base "first_wrong_name" ["names","most","taken"] 2 (sp_first_wrong_name K)
abbrev kI:Prop:=∀base,i8 P w K mg base "door_signs" ["asks","says"] 1 (sp_door_signs K)
abbrev fJ:Prop:=∀base,i8 P w K mg base "first_wrong_door" ["doors","rooms","signs"] 2 (sp_first_wrong_door K)
abbrev de:Prop:=∀base,i8 P w K mg base "goals_by_start_and_sign" ["doors"] 1 lp
abbrev iZ:Prop:=∀base,i8 P w K mg base "led_by_still" ["goals","room"] 1 tT
abbrev gj:Prop:=∀base,i8 P w K mg base "first_led_round" ["rooms","led"] 1 cM
abbrev jq:Prop:=∀base,BS P w K mg base "need_none" ["part","number"] 3 (dw Cx)
abbrev kG:Prop:=∀base,BS P w K mg base "need_parts" ["asks","says","rooms","doors"] 4 (eL Cx)
abbrev gE:Prop:=∀base,i8 P w K mg base "doors_by_start" ["rooms","doors"] 1 sp_doors_by_start
abbrev gD:Prop:=∀base,i8 P w K mg base "has_asks_alone" ["doors"] 1 sp_has_asks_alone
abbrev qZ:Prop:=∀base,JT P w K mg base "Machine" C ["self","asks","says","rooms","doors"] 5 (oB C Cx)
abbrev uY:Prop:=∀base,Gu P w K mg base "NoText" C_NoText ["self","number"] 2 (p_ C_NoText "number")
abbrev i7:Prop:=∀base,JV P w K mg base C "asks" ["self"] 1 (sB C)
abbrev i6:Prop:=∀base,JV P w K mg base C "says" ["self"] 1 (sy C)
abbrev ic:Prop:=∀base,JV P w K mg base C "rooms" ["self"] 1 (oq C)
abbrev ie:Prop:=∀base,JV P w K mg base C "doors" ["self"] 1 (tU C)
abbrev uV:Prop:=∀base,i8 P w K mg base "_law_same" ["found","due"] 5 (eK K 4)
abbrev mL:Prop:=∀base,i8 P w K mg base "_law_text_of" ["told"] 1 (kb K)
abbrev gM:Prop:=∀base,i8 P w K mg base "_law_letters" [] 1 gp
abbrev jD:Prop:=∀base,i8 P w K mg base "_law_is_name" ["word"] 2 oA
abbrev gh:Prop:=∀base,i8 P w K mg base "_law_first_wrong" ["words","most","others"] 3 (xD K)
abbrev jC:Prop:=∀base,i8 P w K mg base "_law_is_sign" ["sign","asks","says"] 1 kf
abbrev gA:Prop:=∀base,i8 P w K mg base "_law_wrong_door" ["asks","says","rooms","doors"] 2 gF
abbrev lQ:Prop:=∀base,i8 P w K mg base "_law_round" ["rooms","doors"] 2 oo
abbrev qS:Prop:=∀base,i8 P w K mg base "_law_due" ["asks","says","rooms","doors"] 4 xE
abbrev qV:Prop:=∀base,i8 P w K mg base "is_head" ["words","head"] 1 kg
abbrev qW:Prop:=∀base,i8 P w K mg base "is_door" ["words"] 1 kh
abbrev uX:Prop:=∀base,i8 P w K mg base "is_row" ["words","number"] 2 lW
abbrev lP:Prop:=∀base,BS P w K mg base "need_rows" ["ended","rest"] 4 (ij C_NoText)
abbrev qY:Prop:=∀base,i8 P w K mg base "door_of" ["words"] 1 lX
abbrev BU:Prop:=∀base,BS P w K mg base "read" ["text"] 7 (ou C Cx C_NoText)
abbrev i5:Prop:=∀base,i8 P w K mg base "_law_good_row" ["number","words"] 1 jg
abbrev lR:Prop:=∀base,i8 P w K mg base "_law_read_due" ["given"] 5 dW
abbrev nK:Prop:=∀base,i8 P w K mg base "_law_text" ["pen"] 3 sw
abbrev kN:Prop:=∀base,i8 P w K mg base "_law_read_told" ["given"] 8 dW
abbrev fE:Prop:=∀base,i8 P w K mg base "_law_some_word" ["pen","told"] 4 gS
abbrev gC:Prop:=∀base,i8 P w K mg base "_law_bent_words" ["pen","told","words"] 5 oC
abbrev jU:Prop:=∀base,i8 P w K mg base "_law_bent_lines" ["pen","told","lines"] 6 oE
end
section
variable(X:K.In h)(G:h.Ns cb mg)(z:Zs mg)(c:Cs K mg C Cx Ct a_STILL a_HEADS C_NoText)(T:Ts K C Cx C_NoText)
include X G z c T
theorem ve:kH P w K mg:=fun base=>dG X G T.f_law_spread (fun S _ _ _ _ _ _ _ _ _ a e h=>bK (Dy (K:=K) h) (ac (bz (jE Kw (pv 0) (aM FI af af)) (ag (ax (pv 0))) aO) (ac (qs 2 S (aM gv (aM da (aM da (aM iR (aM gv (pv 0) af) af) (aM iR (pv 1) af)) af) af)) (ac (qs 3 S (aM gv (aM da (aM da (aM iR (pv 2) (pv 2)) (aM iR (pv 1) af)) (aM gv (pv 0) af)) af)) (ac (qs 4 S (aM gv (aM da (aM da (aM iR (pv 3) (pv 3)) (aM iR (pv 2) af)) af) af)) (ag (ax (aM da (aM iR (aM da (aM iR (pv 2) af) (pv 3)) af) (pv 4))))))))) (by walk_at "b")
theorem zo:uW P w K mg:=fun base=>dG X G T.f_law_open (fun S _ _ _ _ _ _ _ _ _ a e h=>bK (G_ h) (ac (qs 1 S (qL rfl z.list (a1 (bj cv (pv 0) cg (bq af))))) (ac (cK cr rfl (gH rfl z.enumerate (a1 (bj cv (pv 0) (bq af) (bq af)))) (eA rfl (aE (gn 2 S) (aE (gn 3 S) cP))) (ag (iP (aM da (xl (pv 1) (aM gv (pv 2) af)) (pv 3)) (kj (pv 1) (aM gv (pv 2) af) fS)))) (ag (ax (bT (a3 (pv 1) af af))))))) (by walk_at "b")
theorem zp:nL P w K mg:=fun base=>dG X G T.f_law_anew (fun S _ _ _ _ _ _ _ _ _ a e h=>bK (Hb (K:=K) h) (ac (iP af (kj (pv 0) af fS)) (ag (ax (pv 0))))) (by walk_at "b")
theorem zj(a:kH P w K mg):dZ P w K mg:=fun base=>dG X G T.f_law_take (fun S _ _ _ _ _ _ _ _ _ e f h=>bK (G7 h) (ac (bz (jE uc (xl (pv 0) af) (pv 1)) (ac (qs 2 S (xl (pv 0) af)) (ac (qs 3 S af) (ac (bz (jE uc (pv 2) (ql z.len (a1 (xl (pv 0) af)))) (ag (qs 3 S (xl (xl (pv 0) af) (pv 2)))) (ag (bz (jE vZ (ql z.len (a1 (xl (pv 0) af))) af) (ag (qs 3 S (aM gv (xl (xl (pv 0) af) (aM gv (aM da (aM iR (pv 2) af) af) (ql z.len (a1 (xl (pv 0) af))))) (aM da (aM FI af af) (pv 2))))) aO))) (ac (iP (aM da (pv 2) af) (kj (pv 0) af fS)) (ag (iP (qf e (a base) (a2 (pv 3) (pv 2))) (kj (pv 0) af fS))))))) aO) (ac (qs 4 S (aM gv (xl (pv 0) af) (pv 1))) (ac (iP (aM CG (xl (pv 0) af) (pv 1)) (kj (pv 0) af fS)) (ag (ax (pv 4))))))) (by walk_at "b")
theorem xw(a:dZ P w K mg):lS P w K mg:=fun base=>dG X G T.f_law_names (fun S _ _ _ _ _ _ _ _ _ e f h=>bK (Fb h) (ac (qs 2 S az) (ac (qs 3 S (d9 iD wu wt sG az (a1 (qc (iy rfl z.range (a1 af)) (bY (by decide)) fun _ _ _ _ _ _=>⟨gc 0,cW,xs' (pv 1) (qf e (a base) (a2 (pv 2) af))⟩)))) (ac (qs 4 S (qf e (a base) (a2 (pv 0) af))) (ac (qs 5 S (qf e (a base) (a2 (pv 0) af))) (ac (qs 6 S (qf e (a base) (a2 (pv 0) af))) (ac (qs 7 S (bT eN)) (ac (cK cr rfl (iy rfl z.range (a1 (pv 1))) (gn 8 S) (ac (qs 9 S (xs' (pv 2) (aM gv (aM da (pv 5) (aM iR af (pv 8))) af))) (ac (qs 10 S (bj qa (pv 3) cg (bq (aM gv (aM da (pv 6) (aM iR (pv 8) (aM gv (pv 4) af))) af)))) (ac (qs 11 S (xl (bT (a3 af (ql z.len (a1 (pv 10))) (aM CG (ql z.len (a1 (pv 10))) af))) (pv 4))) (ag (bN (d9 fF js jr dO (pv 7) (a1 (aM bL (aM bL (bj qa (pv 10) cg (bq (pv 11))) (pv 9)) (bj qa (pv 10) (bq (pv 11)) cg)))))))))) (ag (ax (pv 7))))))))))) (by walk_at "b")
theorem AK:qR P w K mg:=fun base=>dG X G T.f_law_put (fun S _ _ _ _ _ _ _ _ _ e a h=>bK (Jc h) (ag (bz (GW (jM a) (pv 1) (pv 0)) (ag (bN (d9 fF js jr dO (pv 0) (a1 (pv 1))))) aO))) (by walk_at "b")
theorem n6(a:dZ P w K mg)(e:qR P w K mg):gB P w K mg:=fun base=>dG X G T.f_law_draw_doors (fun S _ _ _ _ _ _ _ _ _ f g h=>bK (vj h) (ac (qs 5 S (bT eN)) (ac (qs 6 S (qf f (a base) (a2 (pv 0) af))) (ac (cK cr rfl (gH rfl z.enumerate (a1 (pv 3))) (eA rfl (aE (gn 7 S) (aE (gn 8 S) cP))) (ac (cK cr rfl (iy rfl z.range (a1 (xl (bT (cj af (a3 af af af))) (qf f (a base) (a2 (pv 0) af))))) (gn 9 S) (ac (qs 10 S (bH (a2 az (xl (pv 2) (qf f (a base) (a2 (pv 0) (ql z.len (a1 (pv 2))))))))) (ag (bN (qf f (e base) (a2 (pv 5) (bH (a3 (pv 8) (pv 10) (xl (pv 3) (qf f (a base) (a2 (pv 0) (ql z.len (a1 (pv 3)))))))))))))) (ac (cK cr rfl (b9 (pv 1)) (gn 11 S) (ag (cK cr rfl (iy rfl z.range (a1 (xl (bT (cj (pv 4) (a3 af af af))) (qf f (a base) (a2 (pv 0) af))))) (gn 9 S) (ag (bN (qf f (e base) (a2 (pv 5) (bH (a3 (pv 8) (bH (a2 az (pv 11))) (xl (pv 3) (qf f (a base) (a2 (pv 0) (ql z.len (a1 (pv 3))))))))))))))) (ac (qs 12 S (xl (bT (a2 (bj cv (pv 3) (bq (aM da (pv 7) af)) cg) (bj cv (pv 3) cg (bq (pv 7))))) (pv 6))) (ag (bz (PW.pt (qd (jE (FJ g) (pv 12) (bT eN)) (oQ (jE c7 (qf f (a base) (a2 (pv 0) af)) af)))) (ag (bN (qf f (e base) (a2 (pv 5) (bH (a3 (pv 8) (bH (a1 az)) (xq (pv 12) (qf f (a base) (a2 (pv 0) (ql z.len (a1 (pv 12)))))))))))) aO)))))) (ag (ax (pv 5))))))) (by walk_at "b")
theorem xx(g:nL P w K mg)(a:dZ P w K mg)(e:lS P w K mg)(f:gB P w K mg):rP P w K mg:=fun base=>dG X G T.f_law_model (fun S _ _ _ _ _ _ _ _ _ i j h=>bK (Fc h) (ac (bN (qf i (g base) (a1 (pv 0)))) (ac (qs 3 S (qf i (e base) (a2 (pv 0) af))) (ac (qs 4 S (bj cv (pv 3) cg (bq (aM da af (xl (bT (cj af (cj af (cj af (a3 af af af))))) (qf i (a base) (a2 (pv 0) af))))))) (ac (qs 5 S (bj cv (pv 3) (bq af) (bq (aM da af (xl (bT (cj af (cj af (cj af (a3 af af af))))) (qf i (a base) (a2 (pv 0) af))))))) (ac (qs 6 S (qf i (e base) (a2 (pv 0) (aM da af (qf i (a base) (a2 (pv 0) (pv 1))))))) (ac (qs 7 S (qf i (f base) (cj (pv 0) (cj (pv 4) (a3 (pv 5) (pv 6) (pv 2)))))) (ag (ax (bH (cj (pv 4) (a3 (pv 5) (pv 6) (pv 7))))))))))))) (by walk_at "b")
theorem rX:i4 P w K mg:=fun base=>dG X G T.f_law_still_on (fun S _ _ _ _ _ _ _ _ _ e a h=>bK (zA h) (ac (qs 2 S (qL rfl z.list (a1 (pv 1)))) (ac (qs 3 S af) (ac (zH cr (jE uc (pv 3) (ql z.len (a1 (pv 2)))) (ac (cK cr rfl (b9 (pv 0)) (eA rfl (aE (gn 4 S) (aE (gn 5 S) (aE (gn 6 S) cP)))) (ag (bz (PW.pt (qd (jE (kq a) (pv 4) (xq (pv 2) (pv 3))) (qd (jE (kq a) (pv 5) (bH (a1 az))) (oQ (GW (jM a) (pv 6) (pv 2)))))) (ag (bN (d9 fF js jr dO (pv 2) (a1 (pv 6))))) aO))) (ag (qs 3 S (aM da (pv 3) af))))) (ag (ax (pv 2))))))) (by walk_at "b")
theorem xy:lT P w K mg Cx:=fun base=>dXN c.NoMachine c.xc.cls c.kx T.f_NoMachine_init (fun S _ _ _ _ _ _ _ _ _ a e h=>bK (EX c.xc h) (ac (bN (zK c.xb rfl c.TrialError (a3 (pv 0) (pv 1) (pv 2)))) (ac (xN (pv 0) (pv 1) rfl) (ag (xN (pv 0) (pv 2) rfl))))) (by walk_at "b")
theorem AM:qU P w K mg:=fun base=>dG X G T.f_is_name (fun S _ _ _ _ _ _ _ _ _ a e h=>bK (A4 h) (ag (ax (gu (yn zL (pv 0) az) (gu (yn FK (ql z.len (a1 (pv 0))) (jK rfl c.LONGEST_NAME)) (gr (qB (jo rfl) z.all wq (a1 (qc (Fu (pv 0)) (bY (by decide)) fun _ _ _ _ _ _=>⟨gc 0,cW,KF ud (pv 0) (jK rfl c.LETTERS)⟩))))))))) (by walk_at "b")
theorem AR:jV P w K mg:=fun base=>dG X G T.f_as_keys (fun S _ _ _ _ _ _ _ _ _ e a h=>bK (A7 h) (ac (qs 1 S ub) (ac (cK cr rfl (b9 (pv 0)) (gn 2 S) (ag (lZ a (pv 1) (pv 2) mG rfl))) (ag (ax (pv 1)))))) (by walk_at "b")
theorem mm(a:qU P w K mg)(e:jV P w K mg):fH P w K mg:=fun base=>dG X G T.f_first_wrong_name (fun S _ _ _ _ _ _ _ _ _ f g h=>bK (mo h) (ac (bz (jE c7 (ql z.len (a1 (pv 0))) af) (ag (ax af)) aO) (ac (qs 3 S (qf f (e base) (a1 (pv 2)))) (ac (cK cr rfl (gH rfl z.enumerate (a1 (pv 0))) (eA rfl (aE (gn 4 S) (aE (gn 5 S) cP))) (ac (bz (PW.pt (kL (jE c7 (pv 4) (pv 1)) (kL (hZ (xS g (pv 5) (pv 3))) (lA (nh (gq (qf f (a base) (a1 (pv 5))))))))) (ag (ax (pv 4))) aO) (ag (lZ g (pv 3) (pv 5) mG rfl)))) (ag (ax lC)))))) (by walk_at "b")
theorem vf:kI P w K mg:=fun base=>dG X G T.f_door_signs (fun S _ _ _ _ _ _ _ _ _ a e h=>bK (vk c.still h) (ag (ax (aM ue (aM ue (qc (b9 (pv 0)) (bY (by decide)) fun _ _ _ _ _ _=>⟨gc 0,cW,bH (a2 az (pv 0))⟩) (qc (b9 (pv 1)) (bY (by decide)) fun _ _ _ _ _ _=>⟨gc 0,cW,bH (a2 az (pv 0))⟩)) (bT (a1 (jK rfl c.STILL))))))) (by walk_at "b")
theorem mn(a:jV P w K mg):fJ P w K mg:=fun base=>dG X G T.f_first_wrong_door (fun S _ _ _ _ _ _ _ _ _ f e h=>bK (mq h) (ac (qs 3 S (qf f (a base) (a1 (pv 1)))) (ac (qs 4 S ua) (ac (cK cr rfl (gH rfl z.enumerate (a1 (pv 0))) (eA rfl (aE (gn 5 S) (aE (gn 6 S) cP))) (ac (bz (PW.pt (kL (jE c7 (pv 5) (jK rfl c.MOST_DOORS)) (lA (hZ (xS e (pv 6) (pv 4)))))) (ag (ax (pv 5))) aO) (ac (bz (PW.pt (kL (hZ (qh e (xq (pv 6) af) (pv 3))) (kL (GW (jM e) (xq (pv 6) af) (pv 2)) (lA (hZ (qh e (xq (pv 6) af) (pv 3))))))) (ag (ax (pv 5))) aO) (ag (lZ e (pv 4) (pv 6) mG rfl))))) (ag (ax lC)))))) (by walk_at "b")
theorem iJ:de P w K mg:=fun base=>dG X G T.f_goals_by_start_and_sign (fun S _ _ _ _ _ _ _ _ _ e a h=>bK (iO h) (ac (qs 1 S ua) (ac (cK cr rfl (b9 (pv 0)) (eA rfl (aE (gn 2 S) (aE (gn 3 S) (aE (gn 4 S) cP)))) (ag (bN (d9 fF js jr dO (d9 PySem.F.plainAttrs_dict PySem.F.slot_dict_setdefault PySem.F.type_dict_setdefault (DK a) (pv 1) (a2 (bH (a2 (pv 2) (pv 3))) (bT eN))) (a1 (pv 4)))))) (ag (ax (pv 1)))))) (by walk_at "b")
theorem rW:iZ P w K mg:=fun base=>dG X G T.f_led_by_still (fun S _ _ _ _ _ _ _ _ _ e a h=>bK (r9 c.still h) (ac (qs 2 S ub) (ac (qs 3 S (bT (a1 (pv 1)))) (ac (zH cr (jE vZ (ql z.len (a1 (pv 3))) af) (ac (qs 4 S (Jr fF PySem.F.slot_list_pop PySem.F.type_list_pop Js (pv 3))) (ag (cK cr rfl (Jl (FC a (pv 0) (bH (a2 (pv 4) (jK rfl c.STILL))) (bH eN) ⟨rfl,rfl,rfl,rfl⟩)) (gn 5 S) (ag (bz (hZ (qh a (pv 5) (pv 2))) (ac (lZ a (pv 2) (pv 5) mG rfl) (ag (bN (d9 fF js jr dO (pv 3) (a1 (pv 5)))))) aO)))))) (ag (ax (pv 2))))))) (by walk_at "b")
theorem nc:gj P w K mg:=fun base=>dG X G T.f_first_led_round (fun S _ _ _ _ _ _ _ _ _ e a h=>bK (mr h) (ac (cK cr rfl (gH rfl z.enumerate (a1 (pv 0))) (eA rfl (aE (gn 2 S) (aE (gn 3 S) cP))) (ag (bz (hZ (xS a (pv 3) (xQ a (pv 1) (pv 3) (fun _ _=>rfl)))) (ag (ax (pv 2))) aO))) (ag (ax lC)))) (by walk_at "b")
theorem xu(a:lT P w K mg Cx):jq P w K mg Cx:=fun base=>K9 X G T.f_need_none (fun S _ _ _ _ _ _ _ _ _ e f h=>bK (vi h) (ag (bz (hZ (xR (pv 1))) (ag (DF (a base) ur (e.mono (by decide)) rfl rfl (a2 (pv 0) (pv 1)))) aO))) (by walk_at "b")
theorem vd(a:fH P w K mg)(g:kI P w K mg)(f:fJ P w K mg)(e:jq P w K mg Cx):kG P w K mg Cx:=fun base=>K9 X G T.f_need_parts (fun S _ _ _ _ _ _ _ _ _ i j h=>bK (t7 h) (ac (bN (qg (e base) ur (i.mono (by decide)) rfl (a2 az (qf i (a base) (a3 (pv 0) (jK rfl c.MOST_WORDS) (bT eN)))))) (ac (bN (qg (e base) ur (i.mono (by decide)) rfl (a2 az (qf i (a base) (a3 (pv 1) (jK rfl c.MOST_WORDS) (pv 0)))))) (ac (bN (qg (e base) ur (i.mono (by decide)) rfl (a2 az (qf i (a base) (a3 (pv 2) (jK rfl c.MOST_ROOMS) (bT eN)))))) (ag (bN (qg (e base) ur (i.mono (by decide)) rfl (a2 az (qf i (f base) (a3 (pv 3) (pv 2) (qf i (g base) (a2 (pv 0) (pv 1))))))))))))) (by walk_at "b")
theorem oj:gE P w K mg:=fun base=>dG X G T.f_doors_by_start (fun S _ _ _ _ _ _ _ _ _ e a h=>bK (oM h) (ac (qs 2 S ub) (ac (cK cr rfl (b9 (pv 0)) (gn 3 S) (ag (lZ a (pv 2) (pv 3) (bT eN) rfl))) (ac (cK cr rfl (b9 (pv 1)) (gn 4 S) (ag (bN (d9 fF js jr dO (xQ a (pv 2) (xq (pv 4) af) (fun _ _=>rfl)) (a1 (pv 4)))))) (ag (ax (pv 2))))))) (by walk_at "b")
theorem oh:gD P w K mg:=fun base=>dG X G T.f_has_asks_alone (fun S _ _ _ _ _ _ _ _ _ a e h=>bK (oK h) (ag (ax (qB (jo rfl) z.all wq (a1 (qc (b9 (pv 0)) (bY (by decide)) fun _ _ _ _ _ _=>⟨gc 0,cW,yn c7 (xq (xq (pv 0) af) af) az⟩)))))) (by walk_at "b")
theorem AS(l:jV P w K mg)(a:de P w K mg)(i:iZ P w K mg)(e:gj P w K mg)(k:jq P w K mg Cx)(j:kG P w K mg Cx)(f:gE P w K mg)(g:gD P w K mg):qZ P w K mg C Cx:=fun base=>dNX c.cm c.makes c.kc T.f_Machine___init__ (fun S _ _ _ _ _ _ _ _ _ m n h=>bK (Ff c.mc h) (ac (bN (qg (j base) ur (m.mono (by decide)) rfl (cj (pv 1) (a3 (pv 2) (pv 3) (pv 4))))) (ac (PS.nox (lB (pv 0) (qL rfl z.list (a1 (pv 1))) rfl)) (ac (PS.nox (lB (pv 0) (qL rfl z.list (a1 (pv 2))) rfl)) (ac (PS.nox (lB (pv 0) (qL rfl z.list (a1 (pv 3))) rfl)) (ac (PS.nox (lB (pv 0) (qL rfl z.list (a1 (pv 4))) rfl)) (ac (PS.nox (lB (pv 0) (qf m (f base) (a2 (pv 3) (pv 4))) rfl)) (ac (PS.nox (lB (pv 0) (qf m (l base) (a1 (qc (b9 (pv 3)) (bY (by decide)) fun _ _ _ _ _ _=>⟨gc 0,sE (gq (qf m (g base) (a1 (xQ n (nj (pv 1) rfl) (pv 0) (fun _ _=>rfl))))),pv 0⟩))) rfl)) (ac (PS.nox (lB (pv 0) (qf m (a base) (a1 (pv 4))) rfl)) (ac (PS.nox (lB (pv 0) (l5 (yC rfl) rfl z.dict BF (a1 (qc (b9 (pv 3)) (bY (by decide)) fun _ _ _ _ _ _=>⟨gc 0,cW,bH (a2 (pv 0) (qf m (i base) (a2 (nj (pv 1) rfl) (pv 0))))⟩))) rfl)) (ag (bN (qg (k base) ur (m.mono (by decide)) rfl (a2 az (qf m (e base) (a2 (pv 3) (nj (pv 0) rfl))))))))))))))))) (by walk_at "b")
theorem Dw:uY P w K mg C_NoText:=fun base=>dXN c.x_NoText.g c.x_NoText.cls c.x_NoText.kp T.f_NoText_init (fun S _ _ _ _ _ _ _ _ _ a e h=>bK (Jb (n0:="self") (n1:="number") c.x_NoText.cls c.na_NoText_number h) (ac (bN (zK c.xb rfl c.TrialError (a2 (pv 0) (pv 1)))) (ag (xN (pv 0) (pv 1) rfl)))) (by walk_at "b")
theorem rV:i7 P w K mg C:=fun base=>dM c.mc.cls T.f_Machine_asks (fun S _ _ _ _ _ _ _ _ _ a e h=>bK (Ha c.mc h) (ag (ax (qL rfl z.list (a1 (nj (pv 0) rfl)))))) (by walk_at "b")
theorem rT:i6 P w K mg C:=fun base=>dM c.mc.cls T.f_Machine_says (fun S _ _ _ _ _ _ _ _ _ a e h=>bK (G9 c.mc h) (ag (ax (qL rfl z.list (a1 (nj (pv 0) rfl)))))) (by walk_at "b")
theorem p6:ic P w K mg C:=fun base=>dM c.mc.cls T.f_Machine_rooms (fun S _ _ _ _ _ _ _ _ _ a e h=>bK (E_ c.mc h) (ag (ax (qL rfl z.list (a1 (nj (pv 0) rfl)))))) (by walk_at "b")
theorem p7:ie P w K mg C:=fun base=>dM c.mc.cls T.f_Machine_doors (fun S _ _ _ _ _ _ _ _ _ a e h=>bK (Fi c.mc h) (ag (ax (qL rfl z.list (a1 (nj (pv 0) rfl)))))) (by walk_at "b")
theorem zk:uV P w K mg:=fun base=>by
  have E0:i8 P w K mg base "_law_same" ["found","due"] 0 Kn:=by
   obtain⟨f,a,t⟩:=T.f_law_same;obtain⟨l,F⟩:=t.fun_;exact⟨f,l,Ky,eX X G a,F.kp,F.binds (ps:=["found","due"]) (by walk_at "b")⟩
  have st:∀(j:Nat) (g:Sp),j<=8->(∀m,j=m+1->g=(eK K m))->i8 P w K mg base "_law_same" ["found","due"] j g->i8 P w K mg base "_law_same" ["found","due"] (j+1) (eK K j):=fun j g v i n=>dG X G T.f_law_same (fun S _ _ _ _ _ _ _ _ _ o k h=>bK (EY i h) (ac (bz (hZ (Bb (pv 1))) (ag (ax (Jq (Bb (pv 0))))) aO) (ac (bz (gq (qB eQ z.isinstance eR (a2 (pv 1) (ni rfl z.bool)))) (ag (ax (gu (qB eQ z.isinstance eR (a2 (pv 0) (ni rfl z.bool))) (gr (yn (kq k) (pv 0) (pv 1)))))) aO) (ac (bz (gq (qB eQ z.isinstance eR (a2 (pv 1) (vV rfl z.str)))) (ag (ax (gu (qB eQ z.isinstance eR (a2 (pv 0) (vV rfl z.str))) (gr (yn (kq k) (pv 0) (pv 1)))))) aO) (ac (bz (gq (qB eQ z.isinstance eR (a2 (pv 1) (vW rfl z.int)))) (ag (ax (gu (qB eQ z.isinstance eR (a2 (pv 0) (vW rfl z.int))) (gu (Jp (qB eQ z.isinstance eR (a2 (pv 0) (ni rfl z.bool)))) (gr (yn (kq k) (pv 0) (pv 1))))))) aO) (ac (bz (PW.pt (qd (gq (qB eQ z.isinstance eR (a2 (pv 1) (rp rfl z.tuple)))) (oQ (nh (gq (qB eQ z.isinstance eR (a2 (pv 0) (rp rfl z.tuple)))))))) (ag (ax mG)) aO) (ac (bz (PW.pt (qd (gq (qB eQ z.isinstance eR (a2 (pv 1) (t_ rfl z.list)))) (oQ (nh (gq (qB eQ z.isinstance eR (a2 (pv 0) (t_ rfl z.list)))))))) (ag (ax mG)) aO) (ac (bz (jE zL (ql z.len (a1 (pv 0))) (ql z.len (a1 (pv 1)))) (ag (ax mG)) aO) (ag (ax (qB (jo rfl) z.all wq (a1 (qc (Hh rfl z.zip (a2 (pv 0) (pv 1))) (Hn (vY (bY (by decide)) qm (vY (bY (by decide)) qm (FH) (v4)) (Bf qm (v4)))) fun _ _ _ _ _ _=>⟨eA rfl (aE (gc 0) (aE (gc 1) cP)),cW,Io n o rfl (a2 (pv 0) (pv 1))⟩))))))))))))) (by walk_at "b");have p:=st 0 _ (by decide) (fun m e=>by cases e) E0;have q:=st 1 _ (by decide) (fun m e=>by cases e;rfl) p;have r:=st 2 _ (by decide) (fun m e=>by cases e;rfl) q;have s:=st 3 _ (by decide) (fun m e=>by cases e;rfl) r;have u:=st 4 _ (by decide) (fun m e=>by cases e;rfl) s;exact u
theorem tN:mL P w K mg:=fun base=>dG X G T.f_law_text_of (fun S _ _ _ _ _ _ _ _ _ a e h=>bK (A0 h) (ac (iP (pv 0) (eA rfl (aE (gn 1 S) (aE (gn 2 S) (aE (gn 3 S) (aE (gn 4 S) cP)))))) (ac (qs 5 S az) (ac (cK cr rfl (b9 (bT (a3 (bH (a2 az (pv 1))) (bH (a2 az (pv 2))) (bH (a2 az (pv 3)))))) (eA rfl (aE (gn 6 S) (aE (gn 7 S) cP))) (ac (qs 5 S (aM bL (pv 5) (pv 6))) (ac (cK cr rfl (b9 (pv 7)) (gn 8 S) (ag (qs 5 S (aM bL (aM bL (pv 5) az) (pv 8))))) (ag (qs 5 S (aM bL (pv 5) az)))))) (ac (cK cr rfl (b9 (pv 4)) (eA rfl (aE (gn 9 S) (aE (gn 10 S) (aE (gn 11 S) cP)))) (ac (qs 5 S (aM bL (pv 5) (pv 9))) (ac (cK cr rfl (Jk (pv 10)) (gn 12 S) (ag (qs 5 S (aM bL (aM bL (pv 5) az) (pv 12))))) (ag (qs 5 S (aM bL (aM bL (aM bL (pv 5) az) (pv 11)) az)))))) (ag (ax (pv 5)))))))) (by walk_at "b")
theorem tO:gM P w K mg:=fun base=>dG X G T.f_law_letters (fun S _ _ _ _ _ _ _ _ _ a e h=>bK (A2 (K:=K) h) (ag (ax az))) (by walk_at "b")
theorem tQ(a:gM P w K mg):jD P w K mg:=fun base=>dG X G T.f_law_is_name (fun S _ _ _ _ _ _ _ _ _ e f h=>bK (Fd h) (ag (ax (gu (FD FK FK af (ql z.len (a1 (pv 0))) af) (gr (qB (jo rfl) z.all wq (a1 (qc (Fu (pv 0)) (bY (by decide)) fun _ _ _ _ _ _=>⟨gc 0,cW,KF ud (pv 0) (FB (a base) (e.mono (by decide)) rfl)⟩)))))))) (by walk_at "b")
theorem m_(a:jD P w K mg):gh P w K mg:=fun base=>dG X G T.f_law_first_wrong (fun S _ _ _ _ _ _ _ _ _ f e h=>bK (Jd h) (ac (bz (jE (kq e) (pv 0) (bT eN)) (ag (ax af)) aO) (ac (cK cr rfl (gH rfl z.enumerate (a1 (bj cv (pv 0) cg (bq (pv 1))))) (eA rfl (aE (gn 3 S) (aE (gn 4 S) cP))) (ag (bz (PW.pt (kL (nh (gq (qf f (a base) (a1 (pv 4))))) (kL (GW (nk e) (pv 4) (bj cv (pv 0) cg (bq (pv 3)))) (lA (GW (nk e) (pv 4) (pv 2)))))) (ag (ax (pv 3))) aO))) (ac (bz (jE vZ (ql z.len (a1 (pv 0))) (pv 1)) (ag (ax (pv 1))) aO) (ag (ax lC)))))) (by walk_at "b")
theorem tP:jC P w K mg:=fun base=>dG X G T.f_law_is_sign (fun S _ _ _ _ _ _ _ _ _ e a h=>bK (A3 h) (ac (bz (jE c7 (ql z.len (a1 (pv 0))) af) (ag (ax (yn (kq a) (pv 0) (bH (a1 az))))) aO) (ag (ax (Im (gu (yn c7 (xt (pv 0) af) az) (gr (KF (nk a) (xt (pv 0) af) (pv 1)))) (gr (gu (yn c7 (xt (pv 0) af) az) (gr (KF (nk a) (xt (pv 0) af) (pv 2)))))))))) (by walk_at "b")
theorem n5(a:jC P w K mg):gA P w K mg:=fun base=>dG X G T.f_law_wrong_door (fun S _ _ _ _ _ _ _ _ _ f e h=>bK (vh h) (ac (qs 4 S ua) (ac (cK cr rfl (gH rfl z.enumerate (a1 (bj cv (pv 3) cg (bq af)))) (eA rfl (aE (gn 5 S) (aE (eA rfl (aE (gn 6 S) (aE (gn 7 S) (aE (gn 8 S) cP)))) cP))) (ac (bz (PW.pt (kL (GW (jM e) (pv 6) (pv 2)) (kL (GW (jM e) (pv 8) (pv 2)) (lA (nh (gq (qf f (a base) (a3 (pv 7) (pv 0) (pv 1))))))))) (ag (ax (pv 5))) aO) (ac (bz (hZ (xS e (bH (a3 (pv 6) (pv 7) (pv 8))) (pv 4))) (ag (ax (pv 5))) aO) (ag (lZ e (pv 4) (bH (a3 (pv 6) (pv 7) (pv 8))) mG rfl))))) (ac (bz (jE vZ (ql z.len (a1 (pv 3))) af) (ag (ax af)) aO) (ag (ax lC)))))) (by walk_at "b")
theorem xv(a:i4 P w K mg):lQ P w K mg:=fun base=>dG X G T.f_law_round (fun S _ _ _ _ _ _ _ _ _ f e h=>bK (EZ h) (ac (Kv 2 S (b9 (pv 1)) (bY (by decide)) fun _ _ _ _ _ _=>⟨gc 0,sE (jE (kq e) (xq (pv 0) af) (bH (a1 az))),pv 0⟩) (ac (cK cr rfl (gH rfl z.enumerate (a1 (pv 0))) (eA rfl (aE (gn 3 S) (aE (gn 4 S) cP))) (ac (Kv 5 S (b9 (pv 2)) (bY (by decide)) fun _ _ _ _ _ _=>⟨gc 0,sE (jE c7 (xq (pv 0) af) (pv 1)),xq (pv 0) af⟩) (ag (bz (GW (nk e) (pv 4) (qf f (a base) (a2 (pv 2) (pv 5)))) (ag (ax (pv 3))) aO)))) (ag (ax lC))))) (by walk_at "b")
theorem AL(a:gh P w K mg)(e:gA P w K mg)(f:lQ P w K mg):qS P w K mg:=fun base=>dG X G T.f_law_due (fun S _ _ _ _ _ _ _ _ _ g i h=>bK (Je h) (ac (qs 4 S (bT (a1 (bH (a2 az (qf g (a base) (a3 (pv 0) af (bT eN)))))))) (ac (bN (d9 fF js jr dO (pv 4) (a1 (bH (a2 az (qf g (a base) (a3 (pv 1) af (pv 0)))))))) (ac (bN (d9 fF js jr dO (pv 4) (a1 (bH (a2 az (qf g (a base) (a3 (pv 2) af (bT eN)))))))) (ac (bN (d9 fF js jr dO (pv 4) (a1 (bH (a2 az (qf g (e base) (cj (pv 0) (a3 (pv 1) (pv 2) (pv 3))))))))) (ac (cK cr rfl (b9 (pv 4)) (eA rfl (aE (gn 5 S) (aE (gn 6 S) cP))) (ag (bz (hZ (xR (pv 6))) (ag (ax (bH (a2 (pv 5) (pv 6))))) aO))) (ac (qs 6 S (qf g (f base) (a2 (pv 2) (pv 3)))) (ac (bz (hZ (xR (pv 6))) (ag (ax (bH (a2 az (pv 6))))) aO) (ag (ax (bT (cj (pv 0) (a3 (pv 1) (pv 2) (pv 3)))))))))))))) (by walk_at "b")
theorem AN:qV P w K mg:=fun base=>dG X G T.f_is_head (fun S _ _ _ _ _ _ _ _ _ a e h=>bK (A5 h) (ag (ax (gu (yn vZ (ql z.len (a1 (pv 0))) af) (gr (yn c7 (xl (pv 0) af) (pv 1))))))) (by walk_at "b")
theorem AO:qW P w K mg:=fun base=>dG X G T.f_is_door (fun S _ _ _ _ _ _ _ _ _ e a h=>bK (A6 h) (ac (bz (jE c7 (ql z.len (a1 (pv 0))) af) (ag (ax (yn c7 (xl (pv 0) af) az))) aO) (ag (ax (gu (yn c7 (ql z.len (a1 (pv 0))) af) (gr (KF (nk a) (xl (pv 0) af) (bH (a2 az az))))))))) (by walk_at "b")
theorem Dv(a:qV P w K mg)(e:qW P w K mg):uX P w K mg:=fun base=>dG X G T.f_is_row (fun S _ _ _ _ _ _ _ _ _ f g h=>bK (Dz c.heads h) (ac (bz (GW (nk g) az (pv 0)) (ag (ax mG)) aO) (ag (ax (FA (jE uc (pv 1) (ql z.len (a1 (jK rfl c.HEADS)))) (qf f (a base) (a2 (pv 0) (xt (jK rfl c.HEADS) (pv 1)))) (qf f (e base) (a1 (pv 0)))))))) (by walk_at "b")
theorem xr(a:uY P w K mg C_NoText)(e:uX P w K mg):lP P w K mg C_NoText:=fun base=>K9 X G T.f_need_rows (fun S _ _ _ _ _ _ _ _ _ f g h=>bK (xJ c.heads h) (Fq (oP (Jg rfl (gH rfl z.enumerate (a1 (pv 0))) (eA rfl (aE (gn 2 S) (aE (gn 3 S) cP))) (qb (Ij (nh (gq (qf f (e base) (a2 (pv 3) (pv 2))))) (qb (Ik (vU (a base) (f.mono (by decide)) rfl rfl (a1 (pv 2))))) Fo))) (qb (Ij (PW.pt (kL (jE zL (pv 1) az) (lA (jE uc (ql z.len (a1 (pv 0))) (ql z.len (a1 (jK rfl c.HEADS))))))) (qb (Ik (vU (a base) (f.mono (by decide)) rfl rfl (a1 (ql z.len (a1 (pv 0))))))) Fo))))) (by walk_at "b")
theorem AQ:qY P w K mg:=fun base=>dG X G T.f_door_of (fun S _ _ _ _ _ _ _ _ _ a e h=>bK (DA h) (ag (ax (bH (a3 (xl (pv 0) af) (l5 mJ rfl z.tuple lL (a1 (bj cv (pv 0) (bq af) (bq (t9 m5 af))))) (xl (pv 0) (t9 m5 af))))))) (by walk_at "b")
theorem G0(e:qZ P w K mg C Cx)(a:lP P w K mg C_NoText)(f:qY P w K mg):BU P w K mg C Cx C_NoText:=fun base=>K9 X G T.f_read (fun S _ _ _ _ _ _ _ _ _ g i h=>bK (Fa c.heads h) (Fq (oP (Ik (xM (qs 1 S (d9 iD pi ph jN (pv 0) (a1 az))))) (oP (Ik (xM (Kv 2 S (b9 (bj cv (pv 1) cg (bq (t9 m5 af)))) (bY (by decide)) fun _ _ _ _ _ _=>⟨gc 0,cW,d9 iD pi ph jN (pv 0) (a1 az)⟩))) (oP (Ik (Hf (Fw (a base) (g.mono (by decide)) rfl (a2 (pv 2) (xl (pv 1) (t9 m5 af)))))) (oP (Ik (xM (iP (qc (b9 (bj cv (pv 2) cg (bq (ql z.len (a1 (jK rfl c.HEADS)))))) (bY (by decide)) fun _ _ _ _ _ _=>⟨gc 0,cW,bj cv (pv 0) (bq af) cg⟩) (Jn rfl (aE (gn 3 S) (aE (gn 4 S) (aE (gn 5 S) cP))))))) (qb (Ik (Ji (Hi (e base) (g.mono (by decide)) rfl (cj (pv 3) (a3 (pv 4) (pv 5) (qc (b9 (bj cv (pv 2) (bq (ql z.len (a1 (jK rfl c.HEADS)))) cg)) (bY (by decide)) fun _ _ _ _ _ _=>⟨gc 0,cW,qf g (f base) (a1 (pv 0))⟩))))))))))))) (by walk_at "b")
theorem rZ:i5 P w K mg:=fun base=>dG X G T.f_law_good_row (fun S _ _ _ _ _ _ _ _ _ e a h=>bK (zC h) (ac (bz (jE (FJ a) (qc (b9 (pv 1)) (bY (by decide)) fun _ _ _ _ _ _=>⟨gc 0,sE (jE c7 (pv 0) az),pv 0⟩) (bT eN)) (ag (ax mG)) aO) (ac (bz (jE uc (pv 0) af) (ag (ax (gu (yn c7 (xl (pv 1) af) (xl (bT (a3 az az az)) (pv 0))) (gr (yn vZ (ql z.len (a1 (pv 1))) af))))) aO) (ac (bz (jE c7 (ql z.len (a1 (pv 1))) af) (ag (ax (yn c7 (xl (pv 1) af) az))) aO) (ag (ax (gu (yn c7 (ql z.len (a1 (pv 1))) af) (gr (Im (yn c7 (xl (pv 1) af) az) (gr (yn c7 (xl (pv 1) af) az))))))))))) (by walk_at "b")
theorem rY(e:qS P w K mg)(a:i5 P w K mg):lR P w K mg:=fun base=>dG X G T.f_law_read_due (fun S _ _ _ _ _ _ _ _ _ f g h=>bK (A1 h) (ac (qs 1 S (d9 iD pi ph jN (pv 0) (a1 az))) (ac (qs 2 S (bT eN)) (ac (cK cr rfl (gH rfl z.enumerate (a1 (bj cv (pv 1) cg (bq (t9 m5 af))))) (eA rfl (aE (gn 3 S) (aE (gn 4 S) cP))) (ac (qs 5 S (d9 iD pi ph jN (pv 4) (a1 az))) (ac (bz (nh (gq (qf f (a base) (a2 (pv 3) (pv 5))))) (ag (ax (bH (a2 az (pv 3))))) aO) (ag (bN (d9 fF js jr dO (pv 2) (a1 (pv 5)))))))) (ac (bz (PW.pt (kL (jE uc (ql z.len (a1 (pv 2))) af) (lA (jE zL (xl (pv 1) (t9 m5 af)) az)))) (ag (ax (bH (a2 az (ql z.len (a1 (pv 2))))))) aO) (ac (Kv 6 S (b9 (bj cv (pv 2) (bq af) cg)) (bY (by decide)) fun _ _ _ _ _ _=>⟨gc 0,cW,bH (a3 (xl (pv 0) af) (l5 mJ rfl z.tuple lL (a1 (bj cv (pv 0) (bq af) (bq (aM Bd (ql z.len (a1 (pv 0))) af))))) (xl (pv 0) (aM Bd (ql z.len (a1 (pv 0))) af)))⟩) (ag (ax (qf f (e base) (cj (bj cv (xl (pv 2) af) (bq af) cg) (a3 (bj cv (xl (pv 2) af) (bq af) cg) (bj cv (xl (pv 2) af) (bq af) cg) (pv 6)))))))))))) (by walk_at "b")
theorem zi(a:dZ P w K mg)(e:gM P w K mg):nK P w K mg:=fun base=>dG X G T.f_law_text (fun S _ _ _ _ _ _ _ _ _ f g h=>bK (G6 h) (ac (qs 1 S (aM da af (qf f (a base) (a2 (pv 0) af)))) (ac (bz (jE c7 (qf f (a base) (a2 (pv 0) af)) af) (ag (qs 1 S (xl (bT (cj af (a3 af af af))) (qf f (a base) (a2 (pv 0) af))))) aO) (ac (qs 2 S (d9 iD wu wt sG az (a1 (qc (iy rfl z.range (a1 (pv 1))) (bY (by decide)) fun _ _ _ _ _ _=>⟨gc 0,cW,xs' (FB (e base) (f.mono (by decide)) rfl) (qf f (a base) (a2 (pv 1) af))⟩)))) (ac (bz (PW.pt (qd (jE zL (pv 2) az) (oQ (jE c7 (qf f (a base) (a2 (pv 0) af)) af)))) (ac (qs 3 S az) (ac (qs 4 S (qf f (a base) (a2 (pv 0) (pv 1)))) (ag (qs 2 S (aM bL (aM bL (bj qa (pv 2) cg (bq (pv 4))) (xs' (pv 3) (qf f (a base) (a2 (pv 0) (ql z.len (a1 (pv 3))))))) (bj qa (pv 2) (bq (aM da (pv 4) af)) cg)))))) aO) (ag (ax (pv 2)))))))) (by walk_at "b")
theorem p9(j:i7 P w K mg C)(k:i6 P w K mg C)(e:ic P w K mg C)(f:ie P w K mg C)(l:BU P w K mg C Cx C_NoText):kN P w K mg:=fun base=>dG X G T.f_law_read_told (fun S _ _ _ _ _ _ _ _ _ m n h=>bK (xI (I_ c.xc c.x_NoMachine c.x_NoText c.na_NoText_number c.nd) h) (ac (qs 1 S lC) (ac (qs 2 S lC) (ac (Hg (qb (Ik (Jh (i:=1) S rfl (Or.inl rfl) (Fw (l base) (m.mono (by decide)) rfl (a1 (pv 0)))))) (Il (i:=3) S rfl rfl rfl c.x_NoText.g (fun a=>ag (qs 2 S (bH (a2 az (xP (pv 3) rfl))))) (Il (i:=3) S rfl rfl rfl c.x_NoMachine.g (fun a=>ag (qs 2 S (bH (a2 (xP (pv 3) rfl) (xP (pv 3) rfl))))) Jm))) (ac (bz (hZ (Bb (pv 1))) (ag (ax (pv 2))) aO) (ag (ax (bT (cj (K7 m (j base) (pv 1)) (a3 (K7 m (k base) (pv 1)) (K7 m (e base) (pv 1)) (K7 m (f base) (pv 1)))))))))))) (by walk_at "b")
theorem p8(a:dZ P w K mg)(e:nK P w K mg):fE P w K mg:=fun base=>dG X G T.f_law_some_word (fun S _ _ _ _ _ _ _ _ _ f g h=>bK (zB h) (ac (qs 2 S (bT (Hm (iQ az (iQ az (iQ az (iQ az (iQ az (iQ az (iQ az (FG (Fy (by decide +kernel) (qf f (e base) (a1 (pv 0))))))))))))))) (ac (qs 2 S (aM ue (aM ue (aM ue (pv 2) (xt (pv 1) af)) (xt (pv 1) af)) (xt (pv 1) af))) (ag (ax (xl (pv 2) (qf f (a base) (a2 (pv 0) (ql z.len (a1 (pv 2))))))))))) (by walk_at "b")
theorem n_(e:dZ P w K mg)(a:fE P w K mg):gC P w K mg:=fun base=>dG X G T.f_law_bent_words (fun S _ _ _ _ _ _ _ _ _ f g h=>bK (Fj h) (ac (qs 2 S (qL rfl z.list (a1 (pv 2)))) (ac (qs 3 S (qf f (e base) (a2 (pv 0) af))) (ac (qs 4 S (qf f (e base) (a2 (pv 0) (aM da (ql z.len (a1 (pv 2))) af)))) (ac (qs 5 S (qf f (a base) (a2 (pv 0) (pv 1)))) (ac (bz (PW.pt (kL (jE c7 (pv 3) af) (lA (jE c7 (pv 4) (ql z.len (a1 (pv 2))))))) (ag (bN (d9 fF PySem.F.slot_list_insert PySem.F.type_list_insert v3 (pv 2) (a2 (pv 4) (pv 5))))) (ag (bz (jE c7 (pv 3) af) (ag (iP (pv 5) (kj (pv 2) (pv 4) fS))) (ag (bN (d9 fF PySem.F.slot_list_pop PySem.F.type_list_pop zO (pv 2) (a1 (pv 4)))))))) (ag (ax (pv 2))))))))) (by walk_at "b")
theorem og(a:dZ P w K mg)(f:fE P w K mg)(e:gC P w K mg):jU P w K mg:=fun base=>dG X G T.f_law_bent_lines (fun S _ _ _ _ _ _ _ _ _ g i h=>bK (Fk h) (ac (qs 2 S (qL rfl z.list (a1 (pv 2)))) (ac (qs 3 S (qf g (a base) (a2 (pv 0) af))) (ac (bz (jE (kq i) (pv 2) (bT eN)) (ag (ax (bT (a1 (bT (a1 (qf g (f base) (a2 (pv 0) (pv 1))))))))) aO) (ac (qs 4 S (qf g (a base) (a2 (pv 0) (ql z.len (a1 (pv 2)))))) (ac (qs 5 S (qf g (a base) (a2 (pv 0) (ql z.len (a1 (pv 2)))))) (ac (bz (jE c7 (pv 3) af) (ag (bN (d9 fF PySem.F.slot_list_pop PySem.F.type_list_pop zO (pv 2) (a1 (pv 4))))) (ag (bz (jE c7 (pv 3) af) (ag (bN (d9 fF PySem.F.slot_list_insert PySem.F.type_list_insert v3 (pv 2) (a2 (pv 4) (xl (pv 2) (pv 5)))))) (ag (bz (jE c7 (pv 3) af) (ac (qs 6 S (xl (pv 2) (pv 4))) (ac (iP (xl (pv 2) (pv 5)) (kj (pv 2) (pv 4) fS)) (ag (iP (pv 6) (kj (pv 2) (pv 5) fS))))) (ag (iP (qf g (e base) (a3 (pv 0) (pv 1) (xl (pv 2) (pv 4)))) (kj (pv 2) (pv 4) fS)))))))) (ag (ax (pv 2)))))))))) (by walk_at "b")
end
theorem Jt(X:K.In h)(G:h.Ns cb mg)(z:Zs mg)(c:Cs K mg C Cx Ct a_STILL a_HEADS C_NoText)(T:Ts K C Cx C_NoText):∃f fd,mg "law"=some (.ref f)/\(∀(s:Shared) (v:Value),mZ s fd ⟨[v],[]⟩ [("script",v)])/\∀base:Heap,iX P w K mg base CX0 9 f fd ["script"] (sp_law88 K):=by
 have aj:kH P w K mg:=ve X G z c T;have aX:uW P w K mg:=zo X G z c T;have a0:nL P w K mg:=zp X G z c T;have e:dZ P w K mg:=zj X G z c T aj;have ap:lS P w K mg:=xw X G z c T e;have a6:qR P w K mg:=AK X G z c T;have r:gB P w K mg:=n6 X G z c T e a6;have as:rP P w K mg:=xx X G z c T a0 e ap r;have L:i4 P w K mg:=rX X G z c T;have aC:lT P w K mg Cx:=xy X G z c T;have a7:qU P w K mg:=AM X G z c T;have o:jV P w K mg:=AR X G z c T;have m:fH P w K mg:=mm X G z c T a7 o;have ak:kI P w K mg:=vf X G z c T;have n:fJ P w K mg:=mn X G z c T o;have g:de P w K mg:=iJ X G z c T;have M:iZ P w K mg:=rW X G z c T;have p:gj P w K mg:=nc X G z c T;have u:jq P w K mg Cx:=xu X G z c T aC;have al:kG P w K mg Cx:=vd X G z c T m ak n u;have x:gE P w K mg:=oj X G z c T;have y:gD P w K mg:=oh X G z c T;have a8:qZ P w K mg C Cx:=AS X G z c T o g M p u al x y;have bm:uY P w K mg C_NoText:=Dw X G z c T;have N:i7 P w K mg C:=rV X G z c T;have O:i6 P w K mg C:=rT X G z c T;have H:ic P w K mg C:=p6 X G z c T;have I:ie P w K mg C:=p7 X G z c T;have a4:uV P w K mg:=zk X G z c T;have Y:mL P w K mg:=tN X G z c T;have j:gM P w K mg:=tO X G z c T;have ab:jD P w K mg:=tQ X G z c T j;have q:gh P w K mg:=m_ X G z c T ab;have ai:jC P w K mg:=tP X G z c T;have B:gA P w K mg:=n5 X G z c T ai;have aH:lQ P w K mg:=xv X G z c T L;have a9:qS P w K mg:=AL X G z c T q B aH;have bd:qV P w K mg:=AN X G z c T;have bi:qW P w K mg:=AO X G z c T;have bn:uX P w K mg:=Dv X G z c T bd bi;have aT:lP P w K mg C_NoText:=xr X G z c T bm bn;have bl:qY P w K mg:=AQ X G z c T;have b0:BU P w K mg C Cx C_NoText:=G0 X G z c T a8 aT bl;have Q:i5 P w K mg:=rZ X G z c T;have U:lR P w K mg:=rY X G z c T a9 Q;have a5:nK P w K mg:=zi X G z c T e j;have J:kN P w K mg:=p9 X G z c T N O H I b0;have i:fE P w K mg:=p8 X G z c T e a5;have D:gC P w K mg:=n_ X G z c T e i;have E:jU P w K mg:=og X G z c T e i D;obtain⟨f,a,t⟩:=T.f_law88;obtain⟨oc,od,an,sl,kV,dc,pm,cd,ct,l,c1,k1⟩:=t;have F:=Gf (st:=(gP 59)) l c1 k1;have sc:gK C8 Ft (bA (gP 59)):=by walk_at "s"
 have S:=sc.nd;exact⟨f,_,eX X G a,fun s v=>.of_eq rfl,fun base=>F.ok (k:=8) sc (by walk_at "l") (fun _ _ _ _ _ _ _ _ hr h=>by have hu:=v9 hr;exact bK (Fe h) (ac (qs 1 S (qf hr (aX base) (a1 (pv 0)))) (ac (qs 2 S (qf hr (as base) (a3 (pv 1) af (qf hr (e base) (a2 (pv 1) af))))) (ac (Kv 3 S (b9 (bj cv (d9 iD pi ph jN (qf hr (Y base) (a1 (pv 2))) (a1 az)) cg (bq (t9 m5 af)))) (bY (by decide)) fun _ _ _ _ _ _=>⟨gc 0,cW,d9 iD pi ph jN (pv 0) (a1 az)⟩) (ac (cK cr rfl (iy rfl z.range (a1 (qf hr (e base) (a2 (pv 1) af)))) (gn 4 S) (ag (qs 3 S (qf hr (E base) (a3 (pv 1) (pv 2) (pv 3)))))) (ac (qs 5 S (d9 iD wu wt sG az (a1 (qc (b9 (pv 3)) (bY (by decide)) fun _ _ _ _ _ _=>⟨gc 0,cW,aM bL (d9 iD wu wt sG az (a1 (pv 0))) az⟩)))) (ac (qs 6 S (qf hr (e base) (a2 (pv 1) af))) (ac (bz (jE c7 (pv 6) af) (ag (qs 5 S (bj qa (pv 5) cg (bq (aM Bd (ql z.len (a1 (pv 5))) af))))) aO) (ac (bz (jE c7 (pv 6) af) (ag (qs 5 S (aM bL (pv 5) (xl (bT (cj az (a3 az az az))) (qf hr (e base) (a2 (pv 1) af)))))) aO) (ag (ax (qf hr (a4 base) (a2 (qf hr (J base) (a1 (pv 5))) (qf hr (U base) (a1 (pv 5))))))))))))))))⟩
theorem all_mk{l:PySem.W.OpenLaw}{fa:Addr}{c3 qX:Str}{NX:Addr}{c4 b4:Zf}{c5:Zb}{dc:Bool}{b5:Option Bool}{dd:Option Addr}{di dk dm dn dp:Option Value}{ds qT:Str}{NT:Addr}{dt b6:Zf}{dx:Zb}{dy:Bool}{b7:Option Bool}{dK:Option Addr}{dN dT dV d0 d1:Option Value}{b8 d2:Str}{d3:Addr}{ce a7:Zf}{ch:Zb}{ci:Bool}{a8:Option Bool}{ck:Option Addr}{cl cm cn co cs:Option Value}{o:Value}{a:Value}{g:Value}{i:Value}{j:Value}{p:Obj}{q:Array Value}{M:Nat}{r:Obj}{t:Array Value}{N:Nat}(X:K.In h)(G:h.Ns cb mg)(d6:mg "law"=some (.ref fa))
  (aC:cI K cb "Machine"=some (some (.ref C)))
  (pg:yZ K C Str.empty=true)
  (hd:BW K C=true)
  (po:PySem.W.plainOver K C=true)
  (sa:cc K (.ref C) "__setattr__"=some (some (.builtin "object.__setattr__")))
  (mk:yX K C=true)
  (kc:eF K (.ref C)=true)
  (d8:cc K (.ref C) "own_asks"=some none)
  (ea:cc K (.ref C) "own_says"=some none)
  (eb:cc K (.ref C) "own_rooms"=some none)
  (ec:cc K (.ref C) "own_doors"=some none)
  (ed:cc K (.ref C) "leaving"=some none)
  (ee:cc K (.ref C) "quiet"=some none)
  (ei:cc K (.ref C) "sign_goals"=some none)
  (ej:cc K (.ref C) "still_led"=some none)
  (aX:cI K cb "NoMachine"=some (some (.ref Cx)))
  (aT:cI K cb "TrialError"=some (some (.ref Ct)))
  (xo:K.lookup Cx=some (g_ c3 qX Cx NX c4 (.ref Ct::j_) true c5 b4 dc b5 dd di dk dm dn dp "ValueError.__new__"))
  (ct:cc K (.ref Cx) "__setattr__"=some (some (.builtin "object.__setattr__")))
  (cB:cc K (.ref Cx) "__getattribute__"=some (some (.builtin "BaseException.__getattribute__")))
  (cC:cc K (.ref Cx) "__getattr__"=some none)
  (xp:cc K (.ref Cx) "part"=some none)
  (xn:cc K (.ref Cx) "number"=some none)
  (ek:PySem.W.subIn K (.ref Cx) (.type "BaseException")=some true)
  (el:PySem.W.isClsIn K Cx=true)
  (em:PySem.W.typeIn K (.ref Cx)=some (.type "type"))
  (en:PySem.W.subIn K (.ref Cx) (.ref Cx)=some true)
  (eo:PySem.W.readsIn K Ct (.type "type")=true)
  (ep:PySem.W.findCls K (.ref Ct) (.type "type") "__init__"=some (.val (.builtin "ValueError.__init__")))
  (er:BV K (.ref Ct) "__getattribute__"=some (some (.builtin "type.__getattribute__")))
  (kx:eF K (.ref Cx)=true)
  (es:cc K (.ref Cx) "__class__"=some (some (.builtin "object.__class__")))
  (et:BV K (.builtin "object.__class__") "__get__"=some (some (.builtin "getset_descriptor.__get__")))
  (eu:PySem.W.takesIn K (.builtin "object.__class__")=some true)
  (ev:K.lookup Ct=some (g_ ds qT Ct NT dt j_ true dx b6 dy b7 dK dN dT dV d0 d1 "ValueError.__new__"))
  (c0:cI K cb "NoText"=some (some (.ref C_NoText)))
  (c1:K.lookup C_NoText=some (g_ b8 d2 C_NoText d3 ce (.ref Ct::j_) true ch a7 ci a8 ck cl cm cn co cs "ValueError.__new__"))
  (a9:cc K (.ref C_NoText) "__setattr__"=some (some (.builtin "object.__setattr__")))
  (bd:cc K (.ref C_NoText) "__getattribute__"=some (some (.builtin "BaseException.__getattribute__")))
  (bi:cc K (.ref C_NoText) "__getattr__"=some none)
  (bl:cc K (.ref C_NoText) "__class__"=some (some (.builtin "object.__class__")))
  (c2:eF K (.ref C_NoText)=true)
  (bm:cc K (.ref C_NoText) "number"=some none)
  (nd:[Ct,Cx,C_NoText].Nodup)
  (bn:cI K cb "all"=some none)
  (a4:cI K cb "bool"=some none)
  (a5:cI K cb "dict"=some none)
  (I:cI K cb "enumerate"=some none)
  (b0:cI K cb "int"=some none)
  (u:cI K cb "isinstance"=some none)
  (b1:cI K cb "len"=some none)
  (a6:cI K cb "list"=some none)
  (O:cI K cb "range"=some none)
  (b2:cI K cb "str"=some none)
  (Q:cI K cb "tuple"=some none)
  (b3:cI K cb "zip"=some none)
  (J:cI K cb "LETTERS"=some (some o))
  (L:RelV (.str "abcdefghijklmnopqrstuvwxyz") o)
  (m:cI K cb "LONGEST_NAME"=some (some a))
  (n:RelV (.int 8) a)
  (x:cI K cb "MOST_WORDS"=some (some g))
  (y:RelV (.int 4) g)
  (B:cI K cb "MOST_ROOMS"=some (some i))
  (D:RelV (.int 150) i)
  (E:cI K cb "MOST_DOORS"=some (some j))
  (H:RelV (.int 2000) j)
  (U:cI K cb "STILL"=some (some (.ref a_STILL)))
  (Y:K.lookup a_STILL=some p)
  (ab:p.cls=.type "tuple")
  (ai:p.data=.seq q M)
  (aj:q.size<=ao)
  (ak:bg (aJ.map V.str) q.toList)
  (al:cI K cb "HEADS"=some (some (.ref a_HEADS)))
  (an:K.lookup a_HEADS=some r)
  (ap:r.cls=.type "tuple")
  (as:r.data=.seq t N)
  (aH:t.size<=ao)
  (a0:bg (fB.map V.str) t.toList)
  (T:Ts K C Cx C_NoText)
 :∃fd:fe,(∀(s:Shared) (v:Value),mZ s fd ⟨[v],[]⟩ [("script",v)])/\∀base:Heap,K.In base->base.Ns cb mg->iX l.prog w K mg base CX0 9 fa fd ["script"] (sp_law88 K):=by
 have z:Zs mg:=⟨g8 X G bn,g8 X G a4,g8 X G a5,g8 X G I,g8 X G b0,g8 X G u,g8 X G b1,g8 X G a6,g8 X G O,g8 X G b2,g8 X G Q,g8 X G b3⟩;have c:Cs K mg C Cx Ct a_STILL a_HEADS C_NoText:=⟨⟨_,eX X G J,L⟩,⟨_,eX X G m,n⟩,⟨_,eX X G x,y⟩,⟨_,eX X G B,D⟩,⟨_,eX X G E,H⟩,⟨_,eX X G U,rfl⟩,⟨_,eX X G al,rfl⟩,Cc Y ab ai aj ak,Cc an ap as aH a0,⟨⟨pg,hd,po,sa⟩,d8,ea,eb,ec,ed,ee,ei,ej⟩,eX X G aC,mk,kc,⟨⟨⟨_,_,_,_,_,_,_,_,_,_,_,_,_,_,_,xo,.own .base⟩,ct,cB,cC⟩,xp,xn,JA ek el em en⟩,⟨eo,ep,er⟩,eX X G aX,eX X G aT,kx,⟨⟨_,_,_,_,_,_,_,_,_,_,_,_,_,_,ev⟩⟩,⟨et,eu⟩,⟨eX X G aX,⟨⟨_,_,_,_,_,_,_,_,_,_,_,_,_,_,xo⟩⟩,ct,cB,cC,kx,es⟩,nd,⟨eX X G c0,⟨⟨_,_,_,_,_,_,_,_,_,_,_,_,_,_,c1⟩⟩,a9,bd,bi,c2,bl⟩,bm⟩;obtain⟨f,fd,e,b,k⟩:=Jt (P:=l.prog) (w:=w) X G z c T;have e0:=d6.symm.trans e;cases e0;exact⟨fd,b,fun base _ _=>k base⟩
end
end Mum
namespace PySem.W.Fast
def tw15468669449668360018:=0
def tw4371850403863916269:=0
def tw3465306383193881315:=0
def tw7067861065948021352:=0
def tw4977762364031659372:=0
def tw11582134203084275871:=0
def tw2702318787922883065:=0
def tw10016111149548716953:=0
def tw10892809337151153335:=0
def tw7747427475706956834:=0
def tw11712987323925900386:=0
def tw1938216340972227498:=0
def tw2689096013804289017:=0
def tw5971214164544379439:=0
def tw3948725224704761960:=0
def tw18372456462284253303:=0
def tw5799196145752196665:=0
def tw5744182178155295874:=0
def tw14729744450938476472:=0
def tw16788113831148022249:=0
def tw545809208520209661:=0
def tw12195622365038553969:=0
def tw4496809607942786560:=0
def tw13384120268194747979:=0
def tw17627512535041568586:=0
def tw12770003831049835062:=0
def tw4784933301408768689:=0
def tw17915007274874764431:=0
def tw4121404164565183931:=0
def tw3356435450290790191:=0
def tw11199074488159203656:=0
def tw13908512715430849845:=0
def tw17428661979252543724:=0
def tw3811183646641180287:=0
def tw91264915120434791:=0
def tw1659481813796639156:=0
def tw16435393476897925540:=0
def tw13695687801421344862:=0
def tw13910203731201578381:=0
def tw14381075194147603600:=0
def tw16596849283972613669:=0
def tw9735707678783873060:=0
def tw9230000140786590227:=0
def tw6299664748295819416:=0
def tw9900182615445718183:=0
def tw10439942730959698467:=0
def tw18250606903393680881:=0
def tw11067012195088416609:=0
def tw7810368555650349152:=0
def tw4196032234574493433:=0
def tw6915711500453522063:=0
def tw15746698285969225749:=0
def tw15208424562244454924:=0
def tw7592452067297135832:=0
def tw7612701875661554143:=0
def tw962835651464188427:=0
def tw1352194960794742799:=0
def tw15870527382504127357:=0
def tw11128187511283276720:=0
def tw4986036685952387193:=0
def tw1721431231934338492:=0
def tw1496761569095203145:=0
def tw9205988509238286043:=0
def tw14038312849138388278:=0
def tw16150822981305694738:=0
def tw16882073291873102456:=0
def tw3167615343656585603:=0
def tw10780644696732837289:=0
def tw3441105080414419877:=0
def tw12712532208206931564:=0
def tw1902617894470824741:=0
def tw9213281308848023119:=0
def tw13685019893544872240:=0
def tw10479987724766360402:=0
def tw6045701965564969901:=0
def tw16094623652048302662:=0
def tw3043390420865617113:=0
def tw277598650835649688:=0
def tw16346859861524298410:=0
def tw619979155443720481:=0
def tw7908229639282409989:=0
def tw17998637413869762610:=0
def tw6705370579789959403:=0
def tw16566172149243386611:=0
def tw8872746630683010750:=0
def tw2072199043119184972:=0
def tw12261925135461280198:=0
def tw11878619623703788301:=0
def tw9200793033310209112:=0
def tw1442726448747552898:=0
def tw2191723783005658511:=0
def tw6362648835638647280:=0
def tw2641597794153398385:=0
def tw918905612040868310:=0
def tw13719376768169485951:=0
def tw1145794913542767480:=0
def tw11899677091071870808:=0
def tw12941466409112504461:=0
def tw11922813287247530401:=0
def tw1519339875031797010:=0
def tw2915320098148713994:=0
def tw7140420449942391801:=0
def tw12450535841328557888:=0
def tw361459127654439206:=0
def tw8689701797458758316:=0
def tw10274247800921746158:=0
def tw16040743389051258292:=0
def tw4569716956424376004:=0
def tw8414034271649052232:=0
def tw13279513101277602286:=0
def tw565625336721565788:=0
def tw496523317959605130:=0
def tw9559155638663740652:=0
def tw18097297125719276060:=0
def tw10506026698996826853:=0
def tw5244097022983199344:=0
def tw8146254549908028248:=0
def tw4255089893651918377:=0
def tw16276421225260552225:=0
def tw7769675361511129816:=0
def tw16612531562522411100:=0
def tw17172933298981590727:=0
def tw17036718370599315543:=0
def tw15901563748633600125:=0
def tw3630993395363277865:=0
def tw7723770243417533276:=0
def tw11635135966387893857:=0
def tw17986045931119503129:=0
def tw16232454992661030514:=0
def tw14068060916675870354:=0
def tw8932289444713658755:=0
def tw10730067571675282334:=0
def tw9886791632953148076:=0
def tw1748360462282127061:=0
def tw12140388397150387208:=0
def tw16897304128938529234:=0
def tw13007695032559746122:=0
def tw7932827512937899722:=0
def tw8762185685672034966:=0
def tw2320652235366470823:=0
def tw11611888189984683254:=0
def tw15292841602999932519:=0
def tw16211604586410859851:=0
def tw5776263464329232134:=0
def tw4855086186045212663:=0
def tw7886632798744178800:=0
def tw13773874203748028097:=0
def tw2858430516034870138:=0
def tw10887642360762040392:=0
def tw3073106742196710570:=0
def tw11489871547601163206:=0
def tw5750594716514680680:=0
def tw430199688637280130:=0
def tw4338982332191710233:=0
def tw3020122087868888454:=0
def tw18127261297800098607:=0
def tw13449129712773615073:=0
def tw7882463116892966766:=0
def tw856280731268143515:=0
def tw11886549996699423389:=0
def tw7617778766021346845:=0
def tw9205463212443654048:=0
def tw17779832287373603539:=0
def tw7489756619042283911:=0
def tw7175540935288736858:=0
def tw11858434947620639288:=0
def tw16813527994708609643:=0
def tw16903359154389580673:=0
def tw9231831580191565405:=0
def tw16269319079933230084:=0
def tw4426369790827339095:=0
def tw13376142324112915980:=0
def tw7347049359038791327:=0
def tw1479080909262449488:=0
def tw5631711248431462509:=0
def tw14508627609110684878:=0
def tw17788320743020314216:=0
def tw1842760132725942575:=0
def tw13862690126190688971:=0
def tw18047079756861940148:=0
def tw6152226731700813309:=0
def tw34869419882634037:=0
def tw9123690425513518846:=0
def tw15914116043737687509:=0
def tw14332322622182422367:=0
def tw14787254909259682181:=0
def tw2183440276577150070:=0
def tw14832874151813148606:=0
def tw118017930397932982:=0
def tw1030864583621934920:=0
def tw18337959241040609853:=0
def tw338087858066262250:=0
def tw2685452253655744763:=0
def tw15971544839720731354:=0
def tw10816141509145998017:=0
def tw206302324804364621:=0
def tw5932028004627756255:=0
def tw11449328612212903897:=0
def tw11913853500064944166:=0
def tw10991409640138466193:=0
def tw4751363435068357312:=0
def tw14954864446983826464:=0
def tw6336941967243250965:=0
def tw4051460225992022096:=0
def tw14284879063096168234:=0
def tw14252243769818241423:=0
def tw3519363093557870365:=0
def tw13162774510719446616:=0
def tw1570497840171088193:=0
def tw3667123644089459052:=0
def tw1803571948500165418:=0
def tw8332487555658776834:=0
def tw1329983445783883928:=0
def tw13846780568952994949:=0
def tw14908703524506866923:=0
def tw15379574940085206086:=0
def tw10729220983515529452:=0
def tw6803314354054012385:=0
def tw14645440285329289953:=0
def tw5736442953277967887:=0
def tw6021662011110849643:=0
def tw258020945667702032:=0
def tw11050144052118390993:=0
def tw4549593431896307050:=0
def tw252821171703890502:=0
def tw15936044093351456632:=0
def tw13571701391144698220:=0
def tw16767562701056465959:=0
def tw4677004790212429575:=0
def tw609396547519668586:=0
def tw14761330357022224515:=0
def tw9184992090115423330:=0
def tw2866203458485046759:=0
def tw8057083258284173218:=0
def tw8510754914455765004:=0
def tw16465185290623682631:=0
def tw3372625778847096837:=0
def tw8306690709556498875:=0
def tw4942417033733942389:=0
def tw2442758731462440950:=0
def tw5937549447112608165:=0
def tw2502619024454609529:=0
def tw15283976253518405782:=0
def tw4486535201318353333:=0
def tw15301550025039309449:=0
def tw10462251311163118554:=0
def tw3354744960412794462:=0
def tw14303313254157544454:=0
def tw3047771957154583235:=0
def tw15039465384946418968:=0
def tw12446561084224506054:=0
def tw13809549422360620505:=0
def tw3411080965108763513:=0
def tw16743027962708118434:=0
def tw13006550079450626593:=0
def tw10698516147236851011:=0
def tw12199058043831237759:=0
def tw13589840624445301183:=0
def tw14206965919922110520:=0
def tw15811029736036791537:=0
def tw8660741394305099183:=0
def tw14303607031174194413:=0
def tw4484228367578948535:=0
def tw12164615955709125385:=0
def tw13692727882724100006:=0
def tw10209131530603654773:=0
def tw6767950177558924413:=0
def tw11582397502285756018:=0
def tw3060282382510466868:=0
def tw17419318883637602156:=0
def tw9506382371377742166:=0
def tw13715596770553302746:=0
def tw11726517238801415105:=0
def tw15038916118264503843:=0
def tw4459705452259617637:=0
def tw15298618049371706400:=0
def tw15606807812634021702:=0
def tw1638304771175836144:=0
def tw4385203784844802827:=0
def tw12920162928281464777:=0
def tw3095952422682832721:=0
def tw10962742621663137751:=0
def tw11531239400923501421:=0
def tw13777853916084005504:=0
def tw4507122221970104452:=0
def tw17689604783199939021:=0
def tw1299368959005871155:=0
def tw14282829479180442329:=0
def tw12532192902172666689:=0
def tw12711475471893817611:=0
def tw8645281459129362985:=0
def tw16255146828649316879:=0
def tw9405348025856089023:=0
def tw10893306641765486910:=0
def tw12284698003244663640:=0
def tw17617588117955089457:=0
def tw14736630918115898879:=0
def tw7674218714119236338:=0
def tw2579011200459410520:=0
def tw7562298887338992686:=0
def tw17709869874879415000:=0
def tw6262443049955241528:=0
def tw15468917938075521096:=0
def tw4442689469307808314:=0
def tw11509084505817562777:=0
def tw2898033355632248734:=0
def tw11270896584934723117:=0
def tw13792901918438458153:=0
def tw16041123751314900745:=0
def tw10755757887604826825:=0
def tw5090659598814434357:=0
def tw17669496382309228354:=0
def tw6569077607405267339:=0
def tw7122792675252460669:=0
def tw5694669234001912745:=0
def tw6760066786500595220:=0
def tw12886730442596195512:=0
def tw7506917315435775198:=0
def tw9181157426831485349:=0
def tw3492378115609178208:=0
def tw16545089367691234531:=0
def tw10968095503034293217:=0
def tw11945845092194448122:=0
def tw2497631636214614927:=0
def tw7284217635056489861:=0
def tw10461674785186206120:=0
def tw10527918163223366557:=0
def tw9796952078839063516:=0
def tw9712057834769865611:=0
def tw2900532144493166944:=0
def tw6095935485468126416:=0
def tw6880673968866249802:=0
def tw16712811379354341224:=0
def tw4565125549320292506:=0
def tw1683213273186348792:=0
def tw5708063564678173172:=0
def tw272413913867296454:=0
def tw10105192146326793937:=0
def tw5664064327694386535:=0
def tw8712352750488529542:=0
def tw14297313755170726077:=0
def tw1020172954932726315:=0
def tw15282117133143301098:=0
def tw9248663828018522246:=0
def tw14972029802443187392:=0
def tw803155632782517289:=0
def tw6861973130621285228:=0
def tw11158564509771674996:=0
def tw16345818281105836659:=0
def tw4511678331009790764:=0
def tw16082337097669958269:=0
def tw14075457080169156942:=0
def tw12606336310464213290:=0
def tw4784359340382353551:=0
def tw5136755250422869187:=0
def tw10727362041162433077:=0
def tw4720937330662127429:=0
def tw14252036276621399768:=0
def tw13539827288952999950:=0
def tw10268008447290751891:=0
def tw18047457626784929550:=0
def tw17843860350527096033:=0
def tw11610570736560722654:=0
def tw7884482398575931876:=0
def tw10462607533436681400:=0
def tw7349297157753527885:=0
def tw2650600658798871552:=0
def tw6212050075342824712:=0
def tw115484799951755212:=0
def tw7942190932806954659:=0
def tw6963970700600237867:=0
def tw10457515278995790688:=0
def tw8951795550991457169:=0
def tw8862669730828120827:=0
def tw8051470164661880275:=0
def tw10803907596783103090:=0
def tw13893968461177009374:=0
def tw6800731435726584669:=0
def tw8612108106121146069:=0
def tw6949702167060196003:=0
def tw17466688787347237405:=0
def tw5254128527051497343:=0
def tw8237540161022333948:=0
def tw8655670387845336742:=0
def tw16275504213880659903:=0
def tw544441632058379355:=0
def tw9774493557209412881:=0
def tw12172829109510836704:=0
def tw11935823945381155546:=0
def tw15714791214081566395:=0
def tw11464950487142251943:=0
def tw1263143879322346695:=0
def tw3255214813563357459:=0
def tw13208416092259207128:=0
def tw13885291224222480910:=0
def tw13521465484791227719:=0
end PySem.W.Fast
open PySem PySem.W PyProof.Rows
set_option maxRecDepth 100000 in
set_option maxHeartbeats 0 in
theorem PySem.Challenge.cw_mumtrial_k88_rows_bent_holds : PySem.Challenge.rw_mumtrial_k88_rows_bent.Holds := by
 w_on;o_law;k_head;(case hw=>w_witness2)
 k_fill
 refine L2.walk_ofK (l:=PySem.Challenge.rw_mumtrial_k88_rows_bent) (n:=63) (k:=9) (x:="script") (CX:=L2.CX0) (sp:=Mum.sp_law88) rfl (by decide) rfl ⟨rfl,by decide,by decide⟩ (fun w h Y=>PySem.W.kIn_of Y) ?F (fun _ _ a ns hl _ hS=>⟨a,ns,rfl,hS,hl,fun _=>rfl⟩) (fun _ _ _ _ z=>z)
 case F =>
  intro w mg fa h KX G hmg;refine' Mum.all_mk KX G hmg ?aC ?pg ?hd ?po ?sa ?mk ?kc ?na1 ?na2 ?na3 ?na4 ?na5 ?na6 ?na7 ?na8 ?aX ?aT ?xo ?xsa ?xga ?xgx ?xp ?xn ?xs1 ?xs2 ?xs3 ?xs4 ?xrd ?xfi ?xgt ?kx ?xcl ?xgn ?xgk ?xoT ?aXY0 ?xoY0 ?xsaY0 ?xgaY0 ?xgxY0 ?xclY0 ?kxY0 ?xf0Y0 ?nd ?z_all ?z_bool ?z_dict ?z_enumerate ?z_int ?z_isinstance ?z_len ?z_list ?z_range ?z_str ?z_tuple ?z_zip ?g_LETTERS ?r_LETTERS ?g_LONGEST_NAME ?r_LONGEST_NAME ?g_MOST_WORDS ?r_MOST_WORDS ?g_MOST_ROOMS ?r_MOST_ROOMS ?g_MOST_DOORS ?r_MOST_DOORS ?g_STILL ?l_STILL ?c_STILL ?d_STILL ?s_STILL ?v_STILL ?g_HEADS ?l_HEADS ?c_HEADS ?d_HEADS ?s_HEADS ?v_HEADS ?T
  (case aC|pg|hd|po|sa|mk|kc|na1|na2|na3|na4|na5|na6|na7|na8|aX|aT|xo|xsa|xga|xgx|xp|xn|xs1|xs2|xs3|xs4|xrd|xfi|xgt|kx|xcl|xgn|xgk|xoT|aXY0|xoY0|xsaY0|xgaY0|xgxY0|xclY0|kxY0|xf0Y0=>k_is)
  (case nd=>decide)
  (case z_all|z_bool|z_dict|z_enumerate|z_int|z_isinstance|z_len|z_list|z_range|z_str|z_tuple|z_zip|g_LETTERS=>k_is)
  (case r_LETTERS=>exact⟨_,rfl⟩)
  (case g_LONGEST_NAME=>k_is)
  (case r_LONGEST_NAME=>exact⟨_,rfl⟩)
  (case g_MOST_WORDS=>k_is)
  (case r_MOST_WORDS=>exact⟨_,rfl⟩)
  (case g_MOST_ROOMS=>k_is)
  (case r_MOST_ROOMS=>exact⟨_,rfl⟩)
  (case g_MOST_DOORS=>k_is)
  (case r_MOST_DOORS=>exact⟨_,rfl⟩)
  (case g_STILL|l_STILL=>k_is)
  (case c_STILL|d_STILL=>rfl)
  (case s_STILL=>decide)
  (case v_STILL=>exact .cons ⟨_,rfl⟩ .nil)
  (case g_HEADS|l_HEADS=>k_is)
  (case c_HEADS|d_HEADS=>rfl)
  (case s_HEADS=>decide)
  (case v_HEADS=>exact .cons ⟨_,rfl⟩ (.cons ⟨_,rfl⟩ (.cons ⟨_,rfl⟩ .nil)))
  (case T=>constructor<;>first|(refine' Mum.fnG_mk ?a ?l ?c ?k;(case a=>k_is);(case l=>k_is);(case c=>k_is);(case k=>k_is))|(refine' Mum.fnM_mk ?a ?i ?l ?c ?k;(case a=>k_is);(case i=>k_is);(case l=>k_is);(case c=>k_is);(case k=>k_is)))
